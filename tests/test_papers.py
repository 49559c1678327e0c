import copy
import random
import unittest

from leastcode.errors import TooMany
from leastcode.papers import paper
from leastcode.prices import Prices
from leastcode.rows import Row
from leastcode.straight import least_price
from leastcode.tables import row, table, table_to_go, turn
from leastcode.tasks import Task
from leastcode.works import Work
from helping import check_raises, check_same
from jobs import FULL, TURNS, job, work_of
from looking import check_paper
from plain import beginning, draw_task, plain_price, search, standing_of


def numbers_of(entries):
    return {key: entry[0] for key, entry in entries.items()}


class Shown(unittest.TestCase):
    """Papers that show their rows."""

    def test_chosen_tasks(self):
        for task in [*[task for task, _, _, _ in TURNS], *FULL]:
            check_paper(self, task, row(task), paper(task))
            check_paper(self, task, row(task), paper(task=task, most=400))

    def test_drawn_tasks(self):
        for seed in range(80):
            task = draw_task(random.Random(seed), "abcd", 4)
            check_paper(self, task, row(task), paper(task))

    def test_five_names(self):
        for seed in range(8):
            task = draw_task(random.Random(1000 + seed), "abcde", 5)
            check_paper(self, task, row(task), paper(task))

    def test_moves_that_cost_nothing(self):
        for task in [*[task for task, _, _, _ in TURNS[:4]], *FULL]:
            for prices in (Prices(0, 0), Prices(0, 3), Prices(3, 0)):
                task = Task(task.work, task.slots, prices)
                check_paper(self, task, row(task), paper(task))
        free = Task(work_of("given a; fixed k 1 0; results a k; loop; tell k; a = a + k; end; tell k"), 2, Prices(0, 0))
        check_paper(self, free, row(free), paper(free))

    def test_other_papers_do_not_show_it(self):
        task = TURNS[1][0]
        leaf, wanted = paper(task), row(task)
        with self.assertRaises(AssertionError):
            check_paper(self, task, Row([*wanted.numbers[:-1], 0], 1, 3), leaf)
        with self.assertRaises(AssertionError):
            check_paper(self, task, wanted, ((5, 1, 4), *leaf[1:]))
        for part in (2, 3, 4):
            other = copy.deepcopy(leaf)
            entries = other[part][0] if part != 3 else other[part][1][2]
            key = sorted(entries)[1]
            entries[key] = (entries[key][0] + 1, *entries[key][1:])
            with self.assertRaises(AssertionError):
                check_paper(self, task, wanted, other)


class Parts(unittest.TestCase):
    def test_how_many_tables_there_are(self):
        for task in [*[task for task, _, _, _ in TURNS], *FULL]:
            work = task.work
            leaf = paper(task)
            self.assertEqual([type(leaf), len(leaf), *[type(part) for part in leaf]],
                             [tuple, 5, tuple, list, list, list, list])
            when, none, before, rounds, last = leaf
            check_same(self, when, turn(task))
            self.assertEqual(len(none), len(work.ahead) + len(work.behind) + 1)
            self.assertEqual(len(before), len(work.ahead) + 1)
            self.assertEqual([len(tables) for tables in rounds], [len(work.loop)] * (when[0] + when[1]))
            self.assertEqual(len(last), len(work.loop) + len(work.behind) + 1)

    def test_the_heads_are_the_tables(self):
        for task in [*[task for task, _, _, _ in TURNS[:4]], *FULL]:
            _, _, before, rounds, last = paper(task)
            check_same(self, numbers_of(before[-1]), table(task, 0))
            for r, tables in enumerate(rounds):
                check_same(self, numbers_of(tables[-1]), table(task, r + 1))
            check_same(self, numbers_of(last[0]), table_to_go(task, 1))

    def test_the_numbers_of_the_row(self):
        for task in [*[task for task, _, _, _ in TURNS[:4]], *FULL]:
            when, none, before, rounds, last = paper(task)
            results = set(task.work.results)
            ends = [entry[0] for key, entry in none[-1].items() if results <= standing_of(key)[1]]
            self.assertEqual(min(ends), row(task)[0])
            self.assertEqual(min(ends), least_price(task, 0))
            heads = [before[-1], *[tables[-1] for tables in rounds]]
            for n, entries in enumerate(heads):
                price = min(entries[key][0] + last[0][key][0] for key in last[0])
                self.assertEqual(price, row(task)[n + 1])
                self.assertEqual(price, least_price(task, n + 1))

    def test_entries_of_the_beginning_and_of_the_end(self):
        task = FULL[0]
        _, none, before, _, last = paper(task)
        for entries in (none[0], before[0]):
            self.assertEqual({entry[1] for entry in entries.values()}, {None})
        self.assertEqual({entry[2] for entry in last[-1].values()}, {None})
        check_same(self, before[0]["- / a b"], (0, None, ()))
        check_same(self, last[-1]["- / a r"], (0, (), None))

    def test_numbers_are_least_prices(self):
        for seed in range(15):
            task = draw_task(random.Random(2000 + seed), "abc", 3)
            work = task.work
            _, none, before, rounds, _ = paper(task)
            lines = work.ahead + work.behind
            for at, entries in enumerate(none):
                self.check_least(task, lines[:at], entries)
            for at, entries in enumerate(before):
                self.check_least(task, work.ahead[:at], entries)
            for done, tables in enumerate(rounds[:2]):
                for at, entries in enumerate(tables):
                    self.check_least(task, work.ahead + work.loop * done + work.loop[:at + 1], entries)
            self.assertEqual(row(task)[0], plain_price(task, 0))

    def check_least(self, task, lines, entries):
        found = search(task, beginning(task), lines)
        for text, entry in entries.items():
            held, stored = standing_of(text)
            least = min(number for key, number in found.items() if held <= key[0] and stored <= key[1])
            self.assertEqual(entry[0], least)


class Bounds(unittest.TestCase):
    def test_most(self):
        for task, (start, period, step), _, _ in TURNS:
            most = start + period
            check_same(self, paper(task, most)[0], (start, period, step))
            if most > 1:
                check_raises(self, TooMany(most - 1), paper, task, most - 1)
                check_raises(self, TooMany(1), paper, task, most=1)

    def test_loops_without_lines(self):
        task = TURNS[4][0]
        leaf = paper(task, 1)
        check_same(self, leaf[3], [[]])
        self.assertEqual(len(leaf[4]), 2)
        empty = Task(Work([], []), 1)
        check_same(self, paper(empty), ((0, 1, 0), [{"- / -": (0, None, ())}], [{"- / -": (0, None, ())}], [[]],
                                        [{"- / -": (0, (), None)}]))

    def test_a_paper_that_is_changed(self):
        task = job()
        wanted = paper(task)
        leaf = paper(task)
        leaf[1].clear()
        leaf[2][0].clear()
        leaf[3][0][0]["- / a b"] = None
        leaf[4].append(None)
        check_same(self, paper(task), wanted)

    def test_the_name_stands_in_the_file(self):
        self.assertEqual(paper.__module__, "leastcode.papers")


if __name__ == "__main__":
    unittest.main()
