import copy
import random
import unittest

from leastcode.codes import Code
from leastcode.coding import code_for
from leastcode.errors import TooMany
from leastcode.machine import run
from leastcode.outcomes import outcome
from leastcode.prices import Prices
from leastcode.straight import least_price
from leastcode.tables import row, table_to_go, turn_to_go
from leastcode.tasks import Task
from helping import check_raises
from jobs import FULL, TURNS, job, work_of
from plain import draw_task, plain_outcome, plain_price, text_of
from reading import lacking, plain_fault, told_price, unfit

HUGE = 10 ** 40 + 1

# Tasks with the numbers of their sound standings times s + p.
LARGE = [
    (Task(work_of("given a; fixed k 1 5; fixed l 1 5; fixed m 1 9; loop; tell k; tell a; tell m; tell l; tell k; end"), 2,
          Prices(1, 7, {"a": 7, "k": 3, "l": 5, "m": 7})), 3000),
    (Task(work_of("given a b c d e; loop; tell c; tell a e; tell d e; tell e b; end"), 3,
          Prices(2, 6, {"a": 2, "d": 1, "e": 8})), 3013),
    (Task(work_of("given a b c d e f; loop; tell e; tell a; tell b a; tell a f; tell c; tell d; end"), 3,
          Prices(3, 8, {"a": 9, "b": 4, "c": 8, "d": 5, "e": 9})), 3029),
]


def run_price(task, ran):
    """The price of a run, by its counts."""
    names, prices, fixed = task.work.names, task.prices, task.work.fixed
    return (sum(many * prices.load_of(name) for many, name in zip(ran.load_counts, names))
            + sum(many * prices.store for many in ran.store_counts)
            + sum(many * fixed[name][1] for many, name in zip(ran.set_counts, names) if name in fixed))


class Checked(unittest.TestCase):
    def check_parts(self, task, code):
        work = task.work
        self.assertIs(type(code), Code)
        self.assertEqual((code.registers, code.names, code.modulus), (task.slots, work.names, work.modulus))
        self.assertEqual((code.inputs, code.results), (work.given, work.results))
        self.assertEqual({code.names[cell]: constant for cell, constant in code.constants.items()},
                         {name: pair[0] for name, pair in work.fixed.items()})
        for held, stored in code.holdings:
            self.assertLessEqual(set(held) - {None} | set(stored), set(work.names))

    def check(self, task):
        code = code_for(task)
        self.check_parts(task, code)
        self.assertEqual(lacking(code), [])
        self.assertIsNone(plain_fault(task.work, code))
        self.assertEqual(unfit(task, code), [])
        told = row(task)
        for n in [*range(code.first + 2 * code.period + 3), 400, HUGE, HUGE + 1]:
            self.assertEqual(told_price(task, code, n), told[n])
        return code

    def check_runs(self, task, code, rng, many=(0, 1, 2, 5)):
        inputs = {name: rng.randrange(task.work.modulus) for name in task.work.given}
        for n in many:
            ran = run(code, inputs, n)
            self.assertEqual((ran.told, ran.ends), plain_outcome(task.work, inputs, n))
            self.assertEqual(run_price(task, ran), told_price(task, code, n))


class Right(Checked):
    def test_known_tasks(self):
        for task in [task for task, *_ in TURNS] + FULL:
            code = self.check(task)
            self.check_runs(task, code, random.Random(0), (0, 1, 2, code.first + code.period, 60))

    def test_drawn_tasks(self):
        late = flat = 0
        for seed in range(160):
            rng = random.Random(seed)
            task = draw_task(rng, "abcd" if seed % 4 else "abcde", 4)
            code = self.check(task)
            self.check_runs(task, code, rng)
            late += code.first > 2
            if code.is_flat:
                flat += 1
                self.check_runs(task, code, rng, (HUGE,))
        self.assertGreater(late, 1)
        self.assertGreater(flat, 20)

    def test_least_prices(self):
        for seed in range(60):
            task = draw_task(random.Random(seed), "abcd", 3)
            code = code_for(task)
            for n in (0, 1, 2, 3, 7):
                self.assertEqual(told_price(task, code, n), least_price(task, n))
            for n in (0, 1, 2):
                self.assertEqual(told_price(task, code, n), plain_price(task, n))

    def test_costs_are_those_of_the_tables_to_go(self):
        for task in [task for task, *_ in TURNS] + FULL:
            code = code_for(task)
            for (label, stage), cost in code.costs.items():
                held, stored = code.holdings[label]
                text = text_of((set(held) - {None}, set(stored)))
                self.assertEqual(cost, table_to_go(task, stage)[text])

    def test_rise_and_period_are_those_of_the_turn_to_go(self):
        for task in [task for task, *_ in TURNS] + FULL:
            code = code_for(task)
            start, period, rise = turn_to_go(task)
            self.assertEqual((code.first, code.period, code.rise), (start + 1, period, rise))

    def test_results_of_each_kind(self):
        for results in ("a", "b", "k", "a b k", "a k"):
            for slots in (2, 3, 4):
                for prices in (Prices(0, 0), Prices(1, 0), Prices(0, 1), Prices(5, 9, {"k": 0}), Prices(9, 1, {"a": 0})):
                    task = Task(work_of(f"given a; fixed k 7 9; results {results}; b = a; loop; b = a + b; tell k; end; a = 1"),
                                slots, prices)
                    self.check_runs(task, self.check(task), random.Random(slots), (0, 1, 4))

    def test_dear_constants(self):
        # What costs 9 to set is stored once and loaded for nothing.
        task = Task(work_of("given a b; fixed k 7 9; loop; tell k; tell a b; end"), 2, Prices(0, 1))
        code = self.check(task)
        self.assertEqual(run(code, {"a": 1, "b": 2}, 50).set_counts, (0, 0, 1))
        task = Task(work_of("given a b; fixed k 7 9; loop; tell k; tell a b; end"), 2, Prices(9, 9))
        self.assertGreater(run(self.check(task), {"a": 1, "b": 2}, 50).set_counts[2], 40)

    def test_values_that_nobody_needs(self):
        task = Task(work_of("given a; loop; x = a; y = x; x = 5; tell a; end; y = a"), 2, Prices(3, 3))
        self.check_runs(task, self.check(task), random.Random(1), (0, 1, 9))

    def test_loops_without_lines(self):
        task = Task(work_of("given a; results b; loop; end; b = a"), 2, Prices(2, 3))
        code = self.check(task)
        self.assertEqual((code.first, code.period, code.rise), (2, 1, 0))
        self.assertEqual([told_price(task, code, n) for n in (0, 1, HUGE)], [5, 5, 5])

    def test_no_lines_and_no_names(self):
        for slots in (1, 4):
            task = Task(work_of("loop; end"), slots)
            code = self.check(task)
            self.assertEqual((code.names, code.registers), ((), slots))

    def test_one_standing_with_several_labels(self):
        # The two names change their registers with each round, for the made value never gets that of a read one.
        task = Task(work_of("given a b; results a b; loop; c = a + b; a = b + c; b = a + c; end"), 3, Prices(9, 9))
        self.check_runs(task, self.check(task), random.Random(2), (0, 1, 2, 3, 4, 5, 17))

    def test_the_code_of_the_example_whose_least_rings_are_longer(self):
        task = TURNS[1][0]
        code = self.check(task)
        self.assertEqual((code.first, code.period, code.rise), (6, 1, 3))

    def test_parts_with_many_lines(self):
        lines = "; ".join(["x = a + b", "tell x a", "a = b", "b = x"] * 6)
        task = Task(work_of(f"given a b; results a b x; {lines}; loop; {lines}; end; {lines}"), 3, Prices(2, 1))
        self.check_runs(task, self.check(task), random.Random(3), (0, 1, 2, 30))

    def test_six_names(self):
        task = Task(work_of("given a b c d e f; results a f; loop; tell a b c; tell d e f; a = b + c; f = d - e; end"), 4,
                    Prices(3, 2, {"a": 1, "f": 7}))
        self.check_runs(task, self.check(task), random.Random(4), (0, 1, 2, 11))


class Facts(Checked):
    """What holds between the codes of several tasks."""

    def tasks(self):
        return [draw_task(random.Random(seed), "abc", 3) for seed in range(40)]

    def prices_of(self, task, many=8):
        code = code_for(task)
        return [told_price(task, code, n) for n in range(many)]

    def test_more_slots_never_cost_more(self):
        for task in self.tasks():
            for slots in range(task.slots + 1, 5):
                more = Task(task.work, slots, task.prices)
                self.assertTrue(all(a >= b for a, b in zip(self.prices_of(task), self.prices_of(more))))

    def test_prices_times_a_number(self):
        for seed in range(60):
            task = draw_task(random.Random(seed), "abc", 3)
            prices, work = task.prices, task.work
            whole = [prices.load, prices.store, *prices.loads.values(), *[price for _, price in work.fixed.values()]]
            if max(whole) > 4:
                continue
            fixed = {name: (constant, 2 * price) for name, (constant, price) in work.fixed.items()}
            lines = type(work)(work.ahead, work.loop, work.behind, given=work.given, fixed=fixed, results=work.results,
                               modulus=work.modulus)
            loads = {name: 2 * price for name, price in prices.loads.items()}
            other = Task(lines, task.slots, Prices(2 * prices.load, 2 * prices.store, loads))
            self.assertEqual(self.prices_of(other), [2 * price for price in self.prices_of(task)])

    def test_the_body_written_again_and_rounds_put_ahead(self):
        for task in self.tasks():
            prices = self.prices_of(task, 12)
            for j in (2, 3):
                other = Task(task.work ** j, task.slots, task.prices)
                self.assertEqual(self.prices_of(other, 4), [prices[j * n] for n in range(4)])
                self.assertIsNone(plain_fault(other.work, code_for(other)))
                other = Task(task.work.unrolled(j), task.slots, task.prices)
                self.assertEqual(self.prices_of(other, 8), prices[j:j + 8])
                self.assertIsNone(plain_fault(other.work, code_for(other)))

    def test_other_names(self):
        new = {"a": "z", "b": "a", "c": "m"}
        for task in self.tasks():
            loads = {new[name]: task.prices.load_of(name) for name in "abc"}
            other = Task(task.work.renamed(new), task.slots, Prices(task.prices.load, task.prices.store, loads))
            self.assertEqual(self.prices_of(other), self.prices_of(task))

    def test_rise_to_period(self):
        for task in self.tasks():
            code = code_for(task)
            start, period, rise = turn_to_go(task)
            told = row(task)
            self.assertEqual(code.rise * period, rise * code.period)
            self.assertEqual(code.rise * told.period, told.step * code.period)


class Errors(unittest.TestCase):
    def test_just_if_the_turn_to_go_comes_later(self):
        for task, _, (start, period, _), _ in TURNS:
            for most in (start + period, start + period + 1, 400):
                self.assertEqual(code_for(task, most), code_for(task))
            for most in range(1, start + period):
                check_raises(self, TooMany(most), code_for, task, most)
        self.assertEqual(code_for(most=2, task=job()), code_for(job()))
        check_raises(self, TooMany(1), code_for, most=1, task=job())

    def test_the_turn_of_the_tables_may_come_later(self):
        for seed in range(300):
            task = draw_task(random.Random(seed), "abcd", 4)
            start, period, _ = turn_to_go(task)
            self.assertEqual(code_for(task, start + period).first, start + 1)

    def test_too_many_numbers(self):
        for task, many in LARGE:
            start, period, _ = turn_to_go(task)
            self.assertEqual(len(table_to_go(task, 1)) * (start + period), many)
            if many > 3000:
                check_raises(self, TooMany(3000), code_for, task)
                check_raises(self, TooMany(3000), code_for, task, start + period)
                check_raises(self, TooMany(start + period - 1), code_for, task, start + period - 1)
            else:
                code = code_for(task)
                self.assertIsNone(plain_fault(task.work, code))
                self.assertEqual(unfit(task, code), [])
                self.assertEqual([told_price(task, code, n) for n in (0, 3, HUGE)], [row(task)[n] for n in (0, 3, HUGE)])


class Arguments(unittest.TestCase):
    def test_they_stay_as_they_were(self):
        for task in [task for task, *_ in TURNS] + FULL:
            other = copy.deepcopy(task)
            code = code_for(task)
            code.blocks.clear()
            self.assertEqual((task, str(task.work), task.prices), (other, str(other.work), other.prices))
            self.assertEqual(code_for(other), code)
            self.assertEqual(outcome(task.work, {name: 1 for name in task.work.given}, 3),
                             outcome(other.work, {name: 1 for name in task.work.given}, 3))

    def test_the_name_stands_in_the_file(self):
        self.assertEqual(code_for.__module__, "leastcode.coding")


if __name__ == "__main__":
    unittest.main()
