import random
import unittest

from leastcode.errors import BadNumber, TooMany
from leastcode.prices import Prices
from leastcode.straight import least_price
from leastcode.tasks import Task
from leastcode.works import Work
from helping import check_raises, check_same
from jobs import FULL, TURNS, job, work_of
from plain import draw_prices, draw_task, draw_work, plain_price

NO_NUMBERS = [-1, -10 ** 59, True, False, None, "1", "", (), [1], {}, Work([], [])]


class AgainstAPlainSearch(unittest.TestCase):
    def check(self, task, most=4):
        for n in range(most + 1):
            check_same(self, least_price(task, n), plain_price(task, n))

    def test_drawn_tasks(self):
        for seed in range(120):
            self.check(draw_task(random.Random(seed), "abc" if seed % 2 else "abcd", 3))

    def test_more_lines(self):
        for seed in range(25):
            self.check(draw_task(random.Random(1000 + seed), "abcd", 8))

    def test_six_names(self):
        for seed in range(6):
            self.check(draw_task(random.Random(2000 + seed), "abcdef", 6), 2)

    def test_each_number_of_slots(self):
        for seed in range(40):
            rng = random.Random(3000 + seed)
            work = draw_work(rng, "abc", 4)
            prices = draw_prices(rng, "abc")
            found = []
            for slots in range(work.room, 5):
                self.check(Task(work, slots, prices), 2)
                found.append(least_price(Task(work, slots, prices), 2))
            # More slots never cost more.
            self.assertEqual(found, sorted(found, reverse=True))

    def test_works_with_something_of_everything(self):
        for task in FULL:
            self.check(task, 4)

    def test_tasks_that_come_round_late(self):
        for task, _, _, _ in TURNS:
            self.check(task, 3)

    def test_again_dearer_and_cheaper_than_loading(self):
        for again in range(10):
            for load in (0, 3, 9):
                rows = f"given a; fixed k 5 {again}; results k; loop; tell k; tell a; end; tell k"
                for store in (0, 1, 9):
                    self.check(Task(work_of(rows), 1, Prices(9, store, {"k": load})), 4)

    def test_a_name_made_from_itself(self):
        for rows in ("given a b; results a; loop; a = a + b; tell b; end", "given a b; loop; a = a; tell b; a = 1; end",
                     "given a; results a; loop; a = a * a; end; a = a"):
            work = work_of(rows)
            for slots in range(work.room, 4):
                self.check(Task(work, slots, Prices(2, 3)), 4)

    def test_made_values_that_nobody_needs(self):
        for rows in ("given a b; results a b; loop; tell a; x = 1; end", "given a b; loop; x = a; tell a b; end",
                     "given a b c; results c; tell a b; loop; x = 5; tell a b; end; x = a"):
            work = work_of(rows)
            for slots in range(work.room, 4):
                self.check(Task(work, slots, Prices(3, 2)), 4)

    def test_fixed_names_that_are_results(self):
        # All slots are taken, so one has to be given up for a while to store a fixed name.
        for rows in ("fixed k 1 2; fixed l 2 3; results k l; loop; tell k; end",
                     "given a; fixed k 1 2; fixed l 2 3; results a k l; loop; a = 5; end; tell a",
                     "given a; fixed k 1 2; results a k; loop; a = a; end"):
            for slots in (1, 2):
                self.check(Task(work_of(rows), slots, Prices(4, 1)), 3)


class Numbers(unittest.TestCase):
    def test_by_hand(self):
        self.assertEqual([least_price(job(), n) for n in range(6)], [0, 3, 3, 3, 3, 3])
        check_same(self, least_price(task=job(), n=2), 3)
        free = Task(work_of("given a; fixed k 1 0; results a k; loop; tell a; tell k; a = k; end"), 2, Prices(0, 0))
        self.assertEqual([least_price(free, n) for n in range(4)], [0] * 4)
        # A given result that no line makes is stored from the beginning on.
        kept = Task(work_of("given a; results a; loop; tell a; end"), 1, Prices(7, 9))
        self.assertEqual([least_price(kept, n) for n in range(4)], [0, 7, 7, 7])
        # A fixed result has to be stored, for its cell does not hold its constant.
        bound = Task(work_of("fixed k 5 2; results k; loop; end"), 1, Prices(7, 4))
        self.assertEqual(least_price(bound, 0), 6)

    def test_200_lines_in_all(self):
        task = Task(work_of("given a b; results a; " + "tell a; " * 99 + "loop; tell b; end; tell a"), 1, Prices(1, 1))
        self.assertEqual(len(task.work.straight(100)), 200)
        self.assertEqual(least_price(task, 100), 3)
        check_raises(self, TooMany(200), least_price, task, 101)
        task = Task(work_of("given a b c; loop; tell a; tell b; a = c; c = a; end"), 2, Prices(3, 2))
        check_same(self, least_price(task, 50), plain_price(task, 50))
        check_raises(self, TooMany(200), least_price, task, 51)
        task = Task(work_of("given a; " + "tell a; " * 200 + "loop; tell a; end"), 1)
        self.assertEqual(least_price(task, 0), 1)
        check_raises(self, TooMany(200), least_price, task, 1)

    def test_loops_without_lines(self):
        task = Task(work_of("given a; results b; b = a; loop; end; b = b + a"), 2, Prices(2, 5))
        for n in (0, 1, 200, 201, 10 ** 59):
            check_same(self, least_price(task, n), 7)
        self.assertEqual(least_price(Task(Work([], []), 1), 10 ** 59), 0)


class Errors(unittest.TestCase):
    def test_numbers_that_are_none(self):
        for n in NO_NUMBERS:
            check_raises(self, BadNumber(n), least_price, job(), n)
            check_raises(self, BadNumber(n), least_price, Task(Work([], []), 1), n)

    def test_too_many_lines(self):
        for n in (51, 52, 10 ** 59):
            check_raises(self, TooMany(200), least_price, job(), n)

    def test_the_name_stands_in_the_file(self):
        self.assertEqual(least_price.__module__, "leastcode.straight")


class OtherTasks(unittest.TestCase):
    """The facts of the document about other works and prices."""

    def test_prices_times_a_number(self):
        for seed in range(40):
            rng = random.Random(4000 + seed)
            work = draw_work(rng, "abc", 3)
            fixed = {name: pair[0] for name, pair in work.fixed.items()}
            prices = [rng.randint(0, 3) for _ in range(8)]
            found = []
            for c in (1, 2, 3):
                other = Work(work.ahead, work.loop, work.behind, given=work.given, results=work.results, modulus=7,
                             fixed={name: (fixed[name], c * prices[at]) for at, name in enumerate(sorted(fixed))})
                own = {"a": c * prices[5], "b": c * prices[6]}
                task = Task(other, work.room, Prices(c * prices[3], c * prices[4], own))
                found.append([least_price(task, n) for n in range(4)])
            for c in (1, 2, 3):
                self.assertEqual(found[c - 1], [c * price for price in found[0]])

    def test_the_body_written_again_and_rounds_put_ahead(self):
        for seed in range(40):
            task = draw_task(random.Random(5000 + seed), "abc", 3)
            for j in (1, 2, 3):
                again = Task(task.work ** j, task.slots, task.prices)
                unrolled = Task(task.work.unrolled(j), task.slots, task.prices)
                for n in range(3):
                    self.assertEqual(least_price(again, n), least_price(task, j * n))
                    self.assertEqual(least_price(unrolled, n), least_price(task, j + n))

    def test_other_names(self):
        new = {"a": "c", "b": "z", "c": "a"}
        for seed in range(40):
            task = draw_task(random.Random(6000 + seed), "abc", 3)
            loads = {new[name]: price for name, price in task.prices.loads.items()}
            other = Task(task.work.renamed(new), task.slots, Prices(task.prices.load, task.prices.store, loads))
            for n in range(4):
                self.assertEqual(least_price(other, n), least_price(task, n))

    def test_they_need_not_rise(self):
        task = Task(work_of("given b; loop; b = 3; end; tell b"), 1, Prices(9, 0))
        self.assertEqual([least_price(task, n) for n in range(4)], [9, 0, 0, 0])


if __name__ == "__main__":
    unittest.main()
