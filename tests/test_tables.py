import random
import unittest

from leastcode.errors import BadNumber, TooMany
from leastcode.prices import Prices
from leastcode.rows import Row
from leastcode.straight import least_price
from leastcode.tables import row, table, table_to_go, turn, turn_to_go
from leastcode.tasks import Task
from leastcode.works import Work
from helping import ODD_VALUES, check_raises, check_same
from jobs import FULL, TURNS, job, work_of
from plain import draw_task, head_names, plain_price, plain_table, plain_table_to_go, sound_at, text_of

NO_ROUNDS = [-1, 401, 10 ** 59, True, False, None, "1", "", (), [1], {}, Work([], []), *ODD_VALUES]


def drawn(many, start, names="abc"):
    """Some tasks with small works."""
    return [draw_task(random.Random(start + seed), names, 3) for seed in range(many)]


def first_turn(tables, first):
    """The turn of some tables, one after another, the first of which has this number of rounds."""
    for late in range(len(tables)):
        for early in range(late):
            rises = {tables[late][key] - tables[early][key] for key in tables[late]}
            if len(rises) == 1:
                return early + first, late - early, rises.pop()
    return None


class Tables(unittest.TestCase):
    def check_task(self, task, most):
        keys = sorted(text_of(key) for key in sound_at(task, head_names(task.work)))
        for r in range(most + 1):
            found = table(task, r)
            self.assertEqual(sorted(found), keys)
            check_same(self, found, plain_table(task, r))
            found = table_to_go(task, r + 1)
            self.assertEqual(sorted(found), keys)
            check_same(self, found, plain_table_to_go(task, r + 1))

    def test_drawn_tasks(self):
        for task in drawn(50, 0):
            self.check_task(task, 2)

    def test_four_names(self):
        for task in drawn(8, 100, "abcd"):
            self.check_task(task, 1)

    def test_works_with_something_of_everything(self):
        for task in FULL[1:]:
            self.check_task(task, 2)
        for r in range(3):
            check_same(self, table(FULL[0], r), plain_table(FULL[0], r))

    def test_tasks_that_come_round_late(self):
        task = TURNS[1][0]
        for r in (0, 3, 5, 9):
            check_same(self, table(task, r), plain_table(task, r))

    def test_texts(self):
        check_same(self, sorted(table(job(), 0)), ["- / a b", "a / a b", "a / b", "a b / -", "a b / a", "a b / a b",
                                                   "a b / b", "b / a", "b / a b"])
        work = work_of("given b; fixed a 1 0; loop; tell b a; end")
        check_same(self, sorted(table_to_go(Task(work, 2), 1)), sorted([
            "- / b", "- / a b", "a / b", "a / a b", "b / -", "b / a", "b / b", "b / a b", "a b / -", "a b / a",
            "a b / b", "a b / a b"]))
        check_same(self, table(Task(Work([], []), 1), 5), {"- / -": 0})

    def test_a_better_standing_will_do(self):
        # Both names are stored from the beginning on, so a standing with fewer stored names is had with these ones.
        work = work_of("given a b; loop; tell a b; end")
        found = table(Task(work, 2, Prices(3, 5)), 0)
        check_same(self, [found["a / b"], found["a b / -"], found["a b / a b"], found["- / a b"]], [3, 6, 6, 0])

    def test_0_and_400_rounds(self):
        work = work_of("given a b; results a; loop; tell a; b = a; a = b; end")
        task = Task(work, 2, Prices(2, 1))
        for n in (0, 1, 399, 400):
            check_same(self, table(task, n), plain_table(task, n))
        for n in (1, 2, 400):
            check_same(self, table_to_go(task, n), plain_table_to_go(task, n))
        task = TURNS[2][0]
        check_same(self, table(task, 400), {key: number + 3 * 199 for key, number in table(task, 2).items()})
        check_same(self, table_to_go(task, 400), {key: number + 3 * 190 for key, number in table_to_go(task, 20).items()})

    def test_values_that_are_none(self):
        for value in NO_ROUNDS:
            check_raises(self, BadNumber(value), table, job(), value)
            check_raises(self, BadNumber(value), table_to_go, job(), value)
        check_raises(self, BadNumber(0), table_to_go, job(), 0)
        check_raises(self, BadNumber(401), table, task=job(), r=401)
        check_raises(self, BadNumber(0), table_to_go, task=job(), j=0)

    def test_a_dict_that_is_changed(self):
        task = job()
        for make in (table, table_to_go):
            wanted = make(task, 3)
            found = make(task, 3)
            found["- / a b"] = None
            del found["a / b"]
            check_same(self, make(task, 3), wanted)

    def test_names_stand_in_the_file(self):
        for function in (table, table_to_go, turn, turn_to_go, row):
            self.assertEqual(function.__module__, "leastcode.tables")


class ThreeWays(unittest.TestCase):
    """The ways in which the least prices follow from the tables."""

    def check_task(self, task, most):
        keys = list(table(task, 0))
        so_far = [table(task, r) for r in range(most)]
        to_go = [None] + [table_to_go(task, j) for j in range(1, most + 1)]
        for n in range(1, most + 1):
            price = least_price(task, n)
            for r in range(n):
                self.assertEqual(min(so_far[r][key] + to_go[n - r][key] for key in keys), price)
            self.assertEqual(min(so_far[n - 1][key] + to_go[1][key] for key in keys), price)
            self.assertEqual(min(so_far[0][key] + to_go[n][key] for key in keys), price)

    def test_drawn_tasks(self):
        for task in drawn(50, 200, "abcd"):
            self.check_task(task, 5)

    def test_chosen_tasks(self):
        for task in [job(), *FULL, *[task for task, _, _, _ in TURNS[1:]]]:
            self.check_task(task, 8)


class Turns(unittest.TestCase):
    def test_chosen_tasks(self):
        for task, wanted, to_go, _ in TURNS:
            check_same(self, turn(task), wanted)
            check_same(self, turn_to_go(task), to_go)
            check_same(self, turn(task=task, most=400), wanted)
            check_same(self, turn_to_go(task=task, most=400), to_go)

    def test_the_first_one_that_comes_round(self):
        tasks = drawn(60, 300, "abcd") + FULL + [task for task, _, _, _ in TURNS]
        for task in tasks:
            found = turn(task)
            tables = [table(task, r) for r in range(sum(found[:2]) + 1)]
            check_same(self, first_turn(tables, 0), found)
            self.assertIsNone(first_turn(tables[:-1], 0))
            found = turn_to_go(task)
            tables = [table_to_go(task, j) for j in range(1, sum(found[:2]) + 1)]
            check_same(self, first_turn(tables, 1), found)
            self.assertIsNone(first_turn(tables[:-1], 1))

    def test_against_tables_that_are_searched_plainly(self):
        for task in drawn(20, 400):
            found = turn(task)
            check_same(self, first_turn([plain_table(task, r) for r in range(sum(found[:2]) + 1)], 0), found)
            found = turn_to_go(task)
            tables = [plain_table_to_go(task, j) for j in range(1, sum(found[:2]) + 1)]
            check_same(self, first_turn(tables, 1), found)

    def test_later_tables_follow(self):
        for task, (start, period, step), (early, gap, rise), _ in TURNS:
            for r in range(start, start + 2 * period + 3):
                wanted = {key: number + step for key, number in table(task, r).items()}
                check_same(self, table(task, r + period), wanted)
            for j in range(early, early + 2 * gap + 3):
                wanted = {key: number + rise for key, number in table_to_go(task, j).items()}
                check_same(self, table_to_go(task, j + gap), wanted)

    def test_just_enough_and_one_less(self):
        for task, wanted, to_go, text in TURNS:
            most = wanted[0] + wanted[1]
            check_same(self, turn(task, most), wanted)
            self.assertEqual(str(row(task, most)), text)
            if most > 1:
                check_raises(self, TooMany(most - 1), turn, task, most - 1)
                check_raises(self, TooMany(most - 1), row, task, most - 1)
                check_raises(self, TooMany(1), turn, task, most=1)
                check_raises(self, TooMany(1), row, task, most=1)
            most = to_go[0] + to_go[1]
            check_same(self, turn_to_go(task, most), to_go)
            check_raises(self, TooMany(most - 1), turn_to_go, task, most - 1)
            check_raises(self, TooMany(1), turn_to_go, task, most=1)

    def test_one_is_enough(self):
        task = TURNS[4][0]
        check_same(self, turn(task, 1), (0, 1, 0))
        check_same(self, row(task, 1)[7], 10)
        check_raises(self, TooMany(1), turn_to_go, task, 1)

    def test_loops_without_lines(self):
        for rows in ("given a; results a; loop; end", "fixed k 1 1; results k; x = k; loop; end; tell x"):
            task = Task(work_of(rows), 2)
            check_same(self, turn(task), (0, 1, 0))
            check_same(self, turn_to_go(task), (1, 1, 0))
            check_same(self, (row(task).start, row(task).period, row(task).step), (0, 1, 0))
            check_same(self, row(task)[10 ** 59], least_price(task, 0))


class Rows(unittest.TestCase):
    def check_row(self, task, most):
        found = row(task)
        self.assertIs(type(found), Row)
        for n in range(most):
            check_same(self, found[n], least_price(task, n))

    def test_chosen_tasks(self):
        for task, _, _, text in TURNS:
            self.assertEqual(str(row(task)), text)
            self.assertTrue(row(task=task, most=400) == row(task))
            self.check_row(task, 25)
        for task in FULL:
            self.check_row(task, 25)

    def test_drawn_tasks(self):
        for task in drawn(100, 500, "abcd"):
            self.check_row(task, 8)

    def test_against_a_plain_search(self):
        for task in drawn(30, 600):
            found = row(task)
            for n in range(6):
                check_same(self, found[n], plain_price(task, n))

    def test_against_the_tables(self):
        for task, _, _, _ in TURNS:
            found = row(task)
            ahead, last = table(task, 0), table_to_go(task, 1)
            for n in (50, 99, 100, 101, 399, 400):
                so_far, to_go = table(task, n - 1), table_to_go(task, n)
                check_same(self, found[n], min(so_far[key] + last[key] for key in last))
                check_same(self, found[n], min(ahead[key] + to_go[key] for key in ahead))

    def test_far_numbers(self):
        task = TURNS[2][0]
        for n in (10 ** 59, 10 ** 59 + 1):
            check_same(self, row(task)[n], 4 + (n - 1) // 2 * 3 + (1 - n % 2))
        check_same(self, row(TURNS[1][0])[10 ** 59], 19 + 3 * (10 ** 59 - 5))

    def test_start_and_period_are_the_least_ones(self):
        for task in [task for task, _, _, _ in TURNS] + FULL + drawn(20, 700, "abcd"):
            found = row(task)
            start, period = found.start, found.period
            prices = [found[n] for n in range(start + 4 * period + 4)]
            rises = [prices[n + 1] - prices[n] for n in range(len(prices) - 1)]
            if start > 0:
                self.assertNotEqual(rises[start - 1], rises[start - 1 + period])
            for less in range(1, period):
                self.assertNotEqual(rises[start:start + 2 * period], rises[start + less:start + 2 * period + less])

    def test_the_turns_tell_how_it_goes_on(self):
        for task, (start, period, step), (early, gap, rise), _ in TURNS:
            found = row(task)
            for n in range(start + 1, 60):
                self.assertEqual(found[n + period], found[n] + step)
            for n in range(early, 60):
                self.assertEqual(found[n + gap], found[n] + rise)


class Facts(unittest.TestCase):
    def test_the_same_slope_for_both_turns(self):
        for task in drawn(100, 800, "abcd") + FULL + [task for task, _, _, _ in TURNS]:
            _, period, step = turn(task)
            _, gap, rise = turn_to_go(task)
            self.assertEqual(step * gap, rise * period)

    def test_more_slots_never_cost_more(self):
        for task in drawn(30, 900) + [task for task, _, _, _ in TURNS]:
            for slots in range(task.slots + 1, 5):
                more = row(Task(task.work, slots, task.prices))
                for n in (0, 1, 2, 3, 10, 1000, 10 ** 20):
                    self.assertLessEqual(more[n], row(task)[n])

    def test_prices_times_a_number(self):
        rows = "given a b; fixed k 5 {}; results a; loop; tell a; b = a + k; tell b k; a = b; end"
        for slots in (3, 4):
            rows_found = [row(Task(work_of(rows.format(2 * c)), slots, Prices(3 * c, c, {"b": c}))) for c in (1, 2, 3)]
            for n in (0, 1, 2, 3, 7, 100):
                self.assertEqual([found[n] for found in rows_found], [c * rows_found[0][n] for c in (1, 2, 3)])

    def test_the_body_written_again(self):
        for task in drawn(30, 1000) + [task for task, _, _, _ in TURNS[:3]]:
            for j in (2, 3):
                again = row(Task(task.work ** j, task.slots, task.prices))
                for n in (0, 1, 2, 3, 10, 10 ** 20):
                    self.assertEqual(again[n], row(task)[j * n])

    def test_rounds_put_ahead(self):
        for task in drawn(30, 1100) + [task for task, _, _, _ in TURNS]:
            for j in (1, 2):
                unrolled = row(Task(task.work.unrolled(j), task.slots, task.prices))
                for n in (0, 1, 2, 3, 10, 10 ** 20):
                    self.assertEqual(unrolled[n], row(task)[n + j])


if __name__ == "__main__":
    unittest.main()
