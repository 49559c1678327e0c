import copy
import random
import unittest

from leastcode.codes import Code
from leastcode.coding import code_for
from leastcode.errors import BadInput, BadNumber, TooMany
from leastcode.machine import Ran, run
from leastcode.outcomes import outcome
from leastcode.tasks import Task
from leastcode.works import Work
from helping import ODD_VALUES, check_raises, check_same
from handmade import (ADD, LOAD, SET, STORE, TELL, code_with, parts_of, relabelled, small_code, small_parts, small_task,
                      with_later_first, with_registers, with_twice_the_period)
from jobs import FULL, TURNS, job, work_of
from plain import draw_task
from reading import plain_run

HUGE = 10 ** 45 + 13


def parts_of_run(ran):
    return ran.told, ran.ends, ran.load_counts, ran.store_counts, ran.set_counts


def draw_instruction(rng, flat, registers=2, cells=3):
    """Any instruction for a code whose cell 2 has a constant."""
    register = rng.randrange(registers)
    kind = rng.choice(("load", "store", "set", "let", "let") if flat else ("load", "store", "set", "let", "let", "tell"))
    if kind == "load":
        return kind, register, rng.randrange(cells)
    if kind == "store":
        return kind, rng.randrange(cells), register
    if kind == "set":
        return kind, register, 2
    if kind == "tell":
        return kind, tuple(rng.randrange(registers) for _ in range(rng.randint(1, 3)))
    most = 1 if flat else 3
    return kind, register, tuple(
        (rng.randint(-9, 9), tuple(rng.randrange(registers) for _ in range(rng.randint(0, most)))) for _ in range(rng.randint(1, 4)))


def draw_code(rng, flat):
    """Any code: it need not do the lines of a work, and its labels lead anywhere."""
    first, period, labels = rng.randint(2, 4), rng.randint(1, 3), rng.randint(1, 4)

    def section(stage, plain):
        found = tuple(draw_instruction(rng, plain) for _ in range(rng.randint(0, 4)))
        return found, None if stage == 0 else rng.randrange(labels)
    begins = tuple(section(stage, False) for stage in range(first + period))
    blocks = {(label, stage): section(stage - 1, flat and stage > 1) for label in range(labels) for stage in range(1, first + period)}
    return Code(2, ("a", "b", "c"), rng.choice((2, 3, 5)), {2: 1}, ("a",), ("a", "b", "c"), first, period, begins, blocks,
                (((None, None), ()),) * labels, {key: 0 for key in blocks}, 0)


class Checked(unittest.TestCase):
    def check(self, code, inputs, n):
        ran = run(code, inputs, n)
        self.assertIs(type(ran), Ran)
        check_same(self, parts_of_run(ran), plain_run(code, inputs, n))
        self.assertEqual(ran, Ran(*plain_run(code, inputs, n)))
        return ran


class Runs(Checked):
    def test_the_small_code(self):
        code = small_code()
        check_same(self, parts_of_run(run(code, {"a": 990}, 0)), ((), {"a": 990}, (0, 0), (0, 0), (0, 0)))
        check_same(self, parts_of_run(run(code, {"a": 990}, 1)), ((995,), {"a": 995}, (1, 0), (1, 0), (0, 1)))
        check_same(self, parts_of_run(run(code, {"a": 990}, 3)), ((995, 0, 5), {"a": 5}, (1, 0), (1, 0), (0, 1)))
        for n in (0, 1, 2, 7, 1999, 2000):
            self.check(code, {"a": 3}, n)

    def test_codes_for_works(self):
        for seed in range(60):
            rng = random.Random(seed)
            task = draw_task(rng, "abcd", 3)
            code = code_for(task)
            inputs = {name: rng.randrange(7) for name in task.work.given}
            for n in (0, 1, 2, 3, 11, code.first, code.first + code.period):
                ran = self.check(code, inputs, n)
                check_same(self, (ran.told, ran.ends), outcome(task.work, inputs, n))

    def test_codes_that_cannot_be_read(self):
        for seed in range(120):
            rng = random.Random(seed)
            code = draw_code(rng, False)
            for n in (0, 1, 2, code.first - 1, code.first, code.first + code.period, code.first + 2 * code.period + 1, 40):
                self.check(code, {"a": rng.randrange(code.modulus)}, n)

    def test_registers_and_other_cells_hold_0_at_first(self):
        code = small_code(begins=(((("store", 0, 0), ("load", 1, 1), ("tell", (1, 0))), None), ((), 0), ((), 0)),
                          results=("a", "k"))
        check_same(self, parts_of_run(run(code, {"a": 7}, 0)), ((0, 0), {"a": 0, "k": 0}, (0, 1), (1, 0), (0, 0)))
        code = small_code(begins=(((("set", 0, 1), ("store", 1, 0)), None), ((), 0), ((), 0)), results=("k",))
        check_same(self, parts_of_run(run(code, {"a": 7}, 0)), ((), {"k": 5}, (0, 0), (0, 1), (0, 1)))

    def test_products(self):
        terms = ((999999, (0, 0, 0)), (-2, (0, 1)), (3, ()))
        code = small_code(modulus=10 ** 18, begins=((((LOAD, SET, ("let", 1, terms), ("tell", (1,)), ("let", 1, terms), ("tell", (1, 0, 1))),
                                                     None)), ((), 0), ((), 0)))
        value = 10 ** 17
        first = (999999 * value ** 3 - 2 * value * 5 + 3) % 10 ** 18
        second = (999999 * value ** 3 - 2 * value * first + 3) % 10 ** 18
        self.assertEqual(run(code, {"a": value}, 0).told, (first, second, value, second))

    def test_no_names(self):
        code = Code(1, (), 2, {}, (), (), 2, 1, (((), None), ((), 0), ((), 0)), {(0, 1): ((), None), (0, 2): ((), 0)},
                    (((None,), ()),), {(0, 1): 0, (0, 2): 0}, 0)
        for n in (0, 1, 5, HUGE):
            check_same(self, parts_of_run(run(code, {}, n)), ((), {}, (), (), ()))

    def test_by_name(self):
        self.assertEqual(run(n=1, inputs={"a": 1}, code=small_code()), Ran((6,), {"a": 6}, (1, 0), (1, 0), (0, 1)))


class ManyRounds(Checked):
    def test_any_flat_codes(self):
        for seed in range(150):
            rng = random.Random(seed)
            code = draw_code(rng, True)
            self.assertIs(code.is_flat, True)
            for n in (code.first, code.first + code.period - 1, code.first + code.period, 50, 2001, HUGE + seed):
                self.check(code, {"a": rng.randrange(code.modulus)}, n)

    def test_codes_for_flat_works(self):
        many = 0
        for seed in range(300):
            rng = random.Random(seed)
            task = draw_task(rng, "abcd", 3)
            if task.work.is_flat:
                many += 1
                code = code_for(task)
                inputs = {name: rng.randrange(7) for name in task.work.given}
                for n in (2001, 10 ** 6, HUGE + seed):
                    ran = run(code, inputs, n)
                    check_same(self, (ran.told, ran.ends), outcome(task.work, inputs, n))
        self.assertGreater(many, 20)

    def test_tells_in_begins_and_in_the_last_round(self):
        work = work_of("given a b; fixed k 3 1; results b; tell a; a = a * a; loop; b = 2 * b + k; a = a + b; end; tell a b; b = a * b")
        code = code_for(Task(work, 3))
        self.assertIs(code.is_flat, True)
        for n in (0, 1, 2, 2000, 2001, HUGE, 10 ** 60 - 1):
            for inputs in ({"a": 1, "b": 999}, {"a": 0, "b": 0}):
                ran = run(code, inputs, n)
                self.assertEqual((ran.told, ran.ends), outcome(work, inputs, n))

    def test_values_of_great_moduli(self):
        work = work_of("given a b c; results a b c; loop; a = 999999 * b - c; b = a + b + 7; c = -3 * c + a; end", 10 ** 18)
        code = code_for(Task(work, 3))
        inputs = {"a": 10 ** 18 - 1, "b": 5, "c": 10 ** 17}
        for n in (5, 40, 2001, HUGE):
            self.assertEqual(run(code, inputs, n).ends, outcome(work, inputs, n)[1])

    def test_counts_of_many_rounds(self):
        task = Task(work_of("given a b; fixed k 5 2; results b; loop; a = a + k; b = b + a; end"), 2)
        code = code_for(task)
        near, far = run(code, {"a": 1, "b": 2}, 1000), run(code, {"a": 1, "b": 2}, 1000 + 10 ** 40)
        again = run(code, {"a": 1, "b": 2}, 1000 + 2 * 10 ** 40)
        for name in ("load_counts", "store_counts", "set_counts"):
            rows = [getattr(ran, name) for ran in (near, far, again)]
            self.assertEqual([b - a for a, b in zip(*rows[:2])], [c - b for b, c in zip(*rows[1:])])
        self.assertGreater(sum(far.load_counts), 10 ** 40)

    def test_not_flat(self):
        for code in (small_code(), code_for(job()), code_for(TURNS[1][0])):
            inputs = {name: 1 for name in code.inputs}
            self.assertIs(code.is_flat, False)
            self.check(code, inputs, 2000)
            for n in (2001, 2002, HUGE, 10 ** 70):
                check_raises(self, TooMany(2000), run, code, inputs, n)

    def test_the_same_in_other_words(self):
        for code in (small_code(), code_for(TURNS[1][0]), code_for(FULL[1]), code_for(FULL[2])):
            labels = {label: len(code.holdings) - 1 - label for label in range(len(code.holdings))}
            for other in (relabelled(code, labels), with_registers(code, list(range(code.registers))[::-1]),
                          with_twice_the_period(code), with_later_first(code)):
                inputs = {name: 2 for name in code.inputs}
                for n in (0, 1, 2, 3, 9, 30):
                    self.assertEqual(run(code, inputs, n), run(other, inputs, n))


class Errors(unittest.TestCase):
    def setUp(self):
        self.code = code_for(Task(work_of("given a b; results a; loop; tell a b; end", 97), 2))

    def test_inputs_that_are_no_such_dict(self):
        for inputs in [value for value in ODD_VALUES] + [
                {"a": 1}, {"b": 1}, {"a": 1, "b": 2, "c": 3}, {"a": 1, "c": 3}, [("a", 1), ("b", 2)], ["a", "b"], "ab",
                {1: 1, 2: 2}, {"a": 1, None: 2}, {"a": 1, ("b",): 2}, self.code]:
            check_raises(self, BadInput(None), run, self.code, inputs, 1)
        check_raises(self, BadInput(None), run, small_code(), {"a": 1, "k": 5}, 1)
        check_raises(self, BadInput(None), run, small_code(inputs=()), {"a": 1}, 1)

    def test_values_that_are_none(self):
        for value in [-1, 97, 98, 10 ** 59, True, False, None, "1", "", (), [1], {}, self.code]:
            check_raises(self, BadInput("a"), run, self.code, {"a": value, "b": 1}, 1)
            check_raises(self, BadInput("b"), run, self.code, {"a": 1, "b": value}, 1)
            check_raises(self, BadInput("a"), run, self.code, {"b": value, "a": value}, 1)
        for value in (0, 1, 96):
            self.assertEqual(run(self.code, {"b": value, "a": 96}, 1).told, (96, value))

    def test_numbers_of_rounds_that_are_none(self):
        for n in [-1, -10 ** 59, True, False, None, "1", "", (), [1], {}, self.code]:
            check_raises(self, BadNumber(n), run, self.code, {"a": 1, "b": 1}, n)

    def test_two_at_once(self):
        good = {"a": 1, "b": 1}
        check_raises(self, BadInput(None), run, self.code, {"a": 97}, 1)
        check_raises(self, BadInput(None), run, self.code, None, 2001)
        check_raises(self, BadInput(None), run, self.code, {"a": 1}, -1)
        check_raises(self, BadInput("a"), run, self.code, {"a": 97, "b": 1}, None)
        check_raises(self, BadInput("b"), run, self.code, {"a": 0, "b": True}, 2001)
        check_raises(self, BadNumber(-2001), run, self.code, good, -2001)
        check_raises(self, TooMany(2000), run, self.code, good, 2001)


class Papers(unittest.TestCase):
    """Objects of the class Ran."""

    def test_any_values_are_kept(self):
        values = [[1], {"a": 1}, None, small_code(), "x"]
        ran = Ran(*values)
        for name, value in zip(("told", "ends", "load_counts", "store_counts", "set_counts"), values):
            self.assertIs(getattr(ran, name), value)
        ran = Ran(set_counts=5, store_counts=4, load_counts=3, ends=2, told=1)
        self.assertEqual(parts_of_run(ran), (1, 2, 3, 4, 5))

    def test_equality(self):
        values = [(1,), {"a": 1}, (1, 0), [2], None]
        self.assertIs(Ran(*values) == Ran(*copy.deepcopy(values)), True)
        self.assertIs(Ran(*values) != Ran(*copy.deepcopy(values)), False)
        self.assertIs(Ran((True,), {"a": True}, (1, False), [2], None) == Ran(*values), True)
        for at in range(5):
            for other in (0, "x", [(1,)], small_code(), [1]):
                changed = values[:at] + [other] + values[at + 1:]
                self.assertIs(Ran(*values) == Ran(*changed), False)
                self.assertIs(Ran(*changed) != Ran(*values), True)
        for other in [*ODD_VALUES, tuple(values), values, small_code(), Work([], [])]:
            self.assertIs(Ran(*values) == other, False)
            self.assertIs(other == Ran(*values), False)
            self.assertIs(Ran(*values) != other, True)
            self.assertIs(other != Ran(*values), True)

    def test_what_is_handed_back_belongs_to_the_caller(self):
        code, inputs = small_code(), {"a": 3}
        ran = run(code, inputs, 2)
        ran.ends["a"] = None
        ran.ends["x"] = 1
        self.assertEqual(inputs, {"a": 3})
        self.assertEqual(run(code, inputs, 2).ends, {"a": 13})
        check_same(self, parts_of(code), small_parts())

    def test_the_names_stand_in_the_file(self):
        self.assertEqual((Ran.__module__, run.__module__), ("leastcode.machine",) * 2)
        self.assertIn("__eq__", vars(Ran))


class Words(unittest.TestCase):
    def test_each_instruction(self):
        code = small_code(begins=(((LOAD, SET, ADD, STORE, TELL), None), ((), 0), ((), 0)))
        self.assertEqual(run(code, {"a": 10}, 0), Ran((15,), {"a": 15}, (1, 0), (1, 0), (0, 1)))
        self.assertEqual(small_task().work.names, code.names)
        code = code_with(code, begins=(((("let", 1, ((-1, ()),)), ("store", 0, 1), ("load", 0, 0), TELL), None), ((), 0), ((), 0)))
        self.assertEqual(run(code, {"a": 10}, 0), Ran((999,), {"a": 999}, (1, 0), (1, 0), (0, 0)))


if __name__ == "__main__":
    unittest.main()
