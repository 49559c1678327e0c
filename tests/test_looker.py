import copy
import random
import unittest

from leastcode.errors import BadName
from leastcode.looker import shows_row
from leastcode.papers import paper
from leastcode.prices import Prices
from leastcode.rows import Row
from leastcode.tables import row, turn
from leastcode.tasks import Task
from helping import ODD_VALUES, check_same
from jobs import FULL, TURNS, job, work_of
from looking import is_shown
from plain import draw_task

PARTS = ("turn", "none", "before", "rounds", "last")
MOVES = [f"{kind} {name}" for kind in ("load", "store", "again", "forget") for name in "abcdekrxy"]
NOT_MOVES = ["load", "load ", "load  a", "Load a", "load a ", "make a", "", "a", None, 1, True, ("load a",)]


def parts_of(leaf):
    """The parts of a paper, as a list that may be changed."""
    return [copy.deepcopy(part) for part in leaf]


def raised(table, number):
    """A table of entries with all numbers raised."""
    return {key: (entry[0] + number, *entry[1:]) for key, entry in table.items()}


def longer(leaf, start, gap):
    """A paper with more rounds, which is right as far as its turn is."""
    (old, period, rise), none, before, rounds, last = leaf
    rounds = list(rounds)
    while len(rounds) < start + gap:
        rounds.append([raised(table, rise) for table in rounds[-period]])
    return (start, gap, gap // period * rise), none, before, rounds, last


def moves_at(entry):
    """The index of the moves in an entry."""
    return 1 if isinstance(entry[1], tuple) else 2


class Said(unittest.TestCase):
    """Whether shows_row says what the conditions say, as looking.py has them."""

    def check(self, task, told, leaf, wanted=None):
        said = shows_row(task, told, leaf)
        self.assertIs(said, is_shown(task, told, leaf) if wanted is None else wanted)
        return said


class Yes(Said):
    def test_papers_of_tasks(self):
        for task in [task for task, *_ in TURNS] + FULL:
            self.check(task, row(task), paper(task), True)
            self.assertIs(is_shown(task, row(task), paper(task)), True)

    def test_papers_of_drawn_tasks(self):
        late = 0
        for seed in range(120):
            task = draw_task(random.Random(seed), "abcd" if seed % 4 else "abcde", 4)
            leaf = paper(task)
            late += leaf[0][0] > 1
            self.check(task, row(task), leaf, True)
        self.assertGreater(late, 3)

    def test_more_rounds_than_need_be(self):
        for task in [task for task, *_ in TURNS[:3]] + FULL:
            leaf = paper(task)
            start, gap, rise = leaf[0]
            for new_start, new_gap in ((start, 2 * gap), (start + 1, gap), (start + 3, 3 * gap)):
                other = longer(leaf, new_start, new_gap)
                self.assertEqual(len(other[3]), new_start + new_gap)
                self.check(task, row(task), other, True)

    def test_moves_for_nothing(self):
        task = Task(work_of("given a b; fixed k 3 0; results a; loop; tell a k; a = a + b; end; tell b"), 3, Prices(0, 0))
        leaf = paper(task)
        some = 0
        for part, table in [(1, 0), (2, 0), (4, 0), (4, -1)]:
            parts = parts_of(leaf)
            entries = parts[part][table]
            for key, entry in entries.items():
                at = moves_at(entry)
                for more in (("load a", "forget a"), ("again k", "store k", "forget k"), ("store a",)):
                    for moves in (more + entry[at], entry[at] + more):
                        entries[key] = (*entry[:at], moves, *entry[at + 1:])
                        some += self.check(task, row(task), tuple(parts))
                entries[key] = entry
        self.assertGreater(some, 20)

    def test_loops_without_lines(self):
        task = TURNS[-1][0]
        leaf = paper(task)
        self.assertEqual(leaf[3], [[]])
        self.check(task, row(task), longer(leaf, 4, 3), True)
        self.check(task, row(task), (leaf[0], *leaf[1:3], [[], []], leaf[4]), False)

    def test_by_name(self):
        self.assertIs(shows_row(paper=paper(job()), row=row(job()), task=job()), True)

    def test_equal_tasks(self):
        self.assertIs(shows_row(job(), Row([0, 3, 3], 1, 0), paper(job())), True)


class No(Said):
    def setUp(self):
        self.tasks = [task for task, *_ in TURNS[:2]] + FULL

    def tables(self, parts):
        """All tables of a paper, each as the list that has it and its index there."""
        rows = [parts[1], parts[2], *parts[3], parts[4]]
        return [(tables, at) for tables in rows for at in range(len(tables))]

    def test_a_number_otherwise(self):
        for task in self.tasks:
            leaf, told = paper(task), row(task)
            rng = random.Random(0)
            for _ in range(40):
                parts = parts_of(leaf)
                tables, at = rng.choice(self.tables(parts))
                key = rng.choice(sorted(tables[at]))
                entry = tables[at][key]
                tables[at][key] = (entry[0] + rng.choice((-2, -1, 1, 2)), *entry[1:])
                self.check(task, told, tuple(parts), False)

    def test_entries_of_other_kinds(self):
        for task in self.tasks:
            leaf, told = paper(task), row(task)
            parts = parts_of(leaf)
            for tables, at in random.Random(1).sample(self.tables(parts), 3):
                for key, entry in list(tables[at].items())[:3]:
                    for other in (list(entry), entry[:2], entry + (None,), (entry[0], entry[2], entry[1]), None, entry[0],
                                  (str(entry[0]), *entry[1:]), (None, *entry[1:]), (bool(entry[0]), *entry[1:]), ()):
                        if type(other) is not tuple or other != entry or type(other[0]) is bool:
                            tables[at][key] = other
                            self.assertIs(shows_row(task, told, tuple(parts)), False)
                    tables[at][key] = entry
            self.check(task, told, tuple(parts), True)

    def test_true_for_one(self):
        task = job()
        parts = parts_of(paper(task))
        many = 0
        for tables, at in self.tables(parts):
            for key, entry in list(tables[at].items()):
                if entry[0] in (0, 1):
                    tables[at][key] = (bool(entry[0]), *entry[1:])
                    self.check(task, row(task), tuple(parts), False)
                    tables[at][key] = entry
                    many += 1
        self.assertGreater(many, 10)
        self.assertEqual(parts[0], (1, 1, 0))
        for other in ((True, 1, 0), (1, True, 0), (1, 1, False)):
            self.check(task, row(task), (other, *parts[1:]), False)

    def test_keys(self):
        for task in self.tasks:
            leaf, told = paper(task), row(task)
            rng = random.Random(2)
            for _ in range(10):
                parts = parts_of(leaf)
                tables, at = rng.choice(self.tables(parts))
                key = rng.choice(sorted(tables[at]))
                entry = tables[at].pop(key)
                self.check(task, told, tuple(parts), False)
                for other in (key + " ", key.upper() + "x", "", None, 1, ("a",), "a b c d e f / -"):
                    tables[at][other] = entry
                    self.check(task, told, tuple(parts), False)
                    tables[at][key] = entry
                    self.check(task, told, tuple(parts), False)
                    del tables[at][other], tables[at][key]

    def test_other_standings_before_and_behind(self):
        seen = {True: 0, False: 0}
        for task in self.tasks:
            leaf, told = paper(task), row(task)
            rng = random.Random(3)
            for _ in range(25):
                parts = parts_of(leaf)
                tables, at = rng.choice(self.tables(parts))
                key = rng.choice(sorted(tables[at]))
                entry = tables[at][key]
                others = [text for some, index in self.tables(parts) for text in some[index]]
                other = rng.choice(others + [None, "", 1, True, [], ("- / a",), key + " "])
                spot = 3 - moves_at(entry)
                tables[at][key] = tuple(other if index == spot else part for index, part in enumerate(entry))
                seen[self.check(task, told, tuple(parts))] += 1
        self.assertGreater(seen[False], 60)

    def test_other_moves(self):
        seen = {True: 0, False: 0}
        for task in self.tasks:
            leaf, told = paper(task), row(task)
            rng = random.Random(4)
            for _ in range(30):
                parts = parts_of(leaf)
                tables, at = rng.choice(self.tables(parts))
                key = rng.choice(sorted(tables[at]))
                entry = tables[at][key]
                spot = moves_at(entry)
                moves = list(entry[spot])
                kind = rng.randrange(5)
                if kind == 0 and moves:
                    moves.pop(rng.randrange(len(moves)))
                elif kind == 1:
                    rng.shuffle(moves)
                elif kind == 2:
                    moves.insert(rng.randint(0, len(moves)), rng.choice(NOT_MOVES))
                else:
                    moves.insert(rng.randint(0, len(moves)), rng.choice(MOVES))
                new = moves if kind == 4 else tuple(moves)
                tables[at][key] = (*entry[:spot], new, *entry[spot + 1:])
                seen[self.check(task, told, tuple(parts))] += 1
        self.assertGreater(seen[False], 80)
        self.assertGreater(seen[True], 5)

    def test_moves_of_names_that_are_not_needed(self):
        task = Task(work_of("given a b; loop; tell a; end; tell a"), 2, Prices(0, 0))
        leaf, told = paper(task), row(task)
        for name, wanted in (("a", True), ("b", False), ("c", False)):
            for part, at, key in ((2, 0, "- / a"), (4, 1, "- / a")):
                parts = parts_of(leaf)
                entry = parts[part][at][key]
                spot = moves_at(entry)
                moves = (f"load {name}", f"forget {name}", *entry[spot])
                parts[part][at][key] = (*entry[:spot], moves, *entry[spot + 1:])
                self.check(task, told, tuple(parts), wanted)

    def test_tables_and_rounds_less_and_more(self):
        for task in self.tasks:
            leaf, told = paper(task), row(task)
            for part in (1, 2, 4):
                for tables in (leaf[part][1:], leaf[part][:-1], leaf[part] + leaf[part][-1:], leaf[part][:1] + leaf[part],
                               tuple(leaf[part]), dict(enumerate(leaf[part])), [], None):
                    self.check(task, told, (*leaf[:part], tables, *leaf[part + 1:]), False)
            for rounds in (leaf[3][1:], leaf[3][:-1], leaf[3] + leaf[3][-1:], tuple(leaf[3]), [], None,
                           [tuple(tables) for tables in leaf[3]], [tables[1:] for tables in leaf[3]],
                           [tables + tables[-1:] for tables in leaf[3]], [None] * len(leaf[3])):
                self.check(task, told, (*leaf[:3], rounds, leaf[4]), False)

    def test_other_kinds_of_tables(self):
        task = job()
        leaf = paper(task)
        for part, at in ((1, 0), (2, 0), (4, 0), (4, 2)):
            table = leaf[part][at]
            for other in (list(table.items()), tuple(table), None, {}, "", [table], 1, set(table)):
                parts = parts_of(leaf)
                parts[part][at] = other
                self.check(task, row(task), tuple(parts), False)

    def test_other_turns(self):
        for task in self.tasks:
            leaf, told = paper(task), row(task)
            start, gap, rise = leaf[0]
            for other in ((start + 1, gap, rise), (start - 1, gap, rise), (start, gap + 1, rise), (start, gap - 1, rise),
                          (start, gap, rise + 1), (start, gap, rise - 1), (start + gap, 0, 0), (start + gap + 1, -1, rise),
                          (-1, gap + start + 1, rise), (start, gap), (start, gap, rise, 0), [start, gap, rise], None, (),
                          (start, gap, None), (None, gap, rise), (start, str(gap), rise)):
                self.assertIs(shows_row(task, told, (other, *leaf[1:])), False)
            for other in ((start + 1, gap - 1, rise), (start - 1, gap + 1, rise), (0, start + gap, rise)):
                if other != leaf[0]:
                    self.check(task, told, (other, *leaf[1:]))

    def test_parts_less_and_more(self):
        task = job()
        leaf = paper(task)
        for other in (leaf[:4], leaf[1:], leaf + ([],), list(leaf), (leaf,), (), None, [leaf], dict(zip(PARTS, leaf)),
                      (leaf[0], leaf[2], leaf[1], leaf[3], leaf[4]), (leaf[0], *leaf[1:3], leaf[4], leaf[3])):
            self.check(task, row(task), other, False)

    def test_other_rows(self):
        for task in self.tasks:
            leaf, told = paper(task), row(task)
            numbers, period, step = list(told.numbers), told.period, told.step
            for at in range(len(numbers)):
                for change in (-1, 1):
                    other = numbers[:at] + [numbers[at] + change] + numbers[at + 1:]
                    self.check(task, Row(other, period, step), leaf, False)
            self.check(task, Row(numbers, period, step + 1), leaf, False)
            self.check(task, Row([number + 1 for number in numbers], period, step), leaf, False)
            for other in (list(numbers), str(told), (numbers, period, step), None, leaf, task):
                self.check(task, other, leaf, False)

    def test_rows_that_part_behind_all_numbers_that_are_looked_at(self):
        for task in self.tasks:
            leaf, told = paper(task), row(task)
            start, gap, rise = leaf[0]
            for many in range(start + gap + 2, start + gap + 6):
                numbers = [told[n] for n in range(many)]
                far = numbers + [told[many] + 1]
                self.check(task, Row(far, 1, told.step), leaf, False)
                self.check(task, Row(numbers, 1, rise + 1), leaf, False)
            # The same numbers as far as they are looked at, but going on by another rule.
            self.check(task, Row([told[n] for n in range(start + gap + 2)], gap, rise), leaf)

    def test_dearer_ways(self):
        task = job()
        leaf = paper(task)
        for part, key in ((1, "a / a"), (2, "a / a b")):
            parts = parts_of(leaf)
            number, before, moves = parts[part][0][key]
            self.assertEqual((number, before), (1, None))
            parts[part][0][key] = (number + 1, None, moves + ("forget a", "load a"))
            self.check(task, row(task), tuple(parts), False)
        parts = parts_of(leaf)
        number, moves, behind = parts[4][-1]["a / -"]
        self.assertEqual((number, behind), (1, None))
        parts[4][-1]["a / -"] = (number + 1, moves + ("load a", ), None)
        self.check(task, row(task), tuple(parts), False)
        parts[4][-1]["a / -"] = (number + 1, moves + ("forget a", "load a"), None)
        self.check(task, row(task), tuple(parts), False)

    def test_all_numbers_raised_with_the_row(self):
        for task in self.tasks:
            (start, gap, rise), none, before, rounds, last = paper(task)
            told = row(task)
            other = Row([number + 1 for number in told.numbers], told.period, told.step)
            raised_none = [none[0], *[raised(table, 1) for table in none[1:]]]
            raised_rounds = [[raised(table, 1) for table in tables] for tables in rounds]
            raised_before = [raised(table, 1) for table in before]
            raised_last = [raised(table, 1) for table in last]
            turning = (start, gap, rise)
            self.check(task, other, (turning, raised_none, raised_before, raised_rounds, last), False)
            self.check(task, other, (turning, raised_none, before, raised_rounds, raised_last), False)
            self.check(task, other, (turning, none, raised_before, raised_rounds, last), False)
            self.check(task, other, (turning, [raised(table, 1) for table in none], raised_before, raised_rounds, last), False)

    def test_cut_ahead_of_the_turn(self):
        for task, (start, gap, rise), _, _ in TURNS:
            leaf, told = paper(task), row(task)
            for many in range(1, start + gap):
                for new in range(many):
                    for more in (rise, told[many + 1] - told[new + 1]):
                        self.check(task, told, ((new, many - new, more), *leaf[1:3], leaf[3][:many], leaf[4]), False)

    def test_the_paper_of_another_task(self):
        tasks = [task for task, *_ in TURNS] + FULL + [
            Task(job().work, 4), Task(job().work, 3, Prices(1, 2)), Task(job().work, 3, Prices(2, 1)),
            Task(job().work, 3, Prices(1, 1, {"b": 0})), Task(job().work ** 2, 3), Task(job().work.unrolled(1), 3)]
        for task in tasks:
            for other in tasks:
                self.check(task, row(task), paper(other), True if task == other else None)
                if row(task) != row(other):
                    self.check(task, row(other), paper(other), False)

    def test_values_that_are_none(self):
        task = job()
        leaf, told = paper(task), row(task)
        values = [*ODD_VALUES, 10 ** 60, leaf, told, [leaf], {"a": leaf}, task, BadName("a"), (leaf,) * 5, [None] * 3000,
                  ((1, 1, 0), None, None, None, None), ((1, 1, 0), [], [], [], []), (10 ** 59, 10 ** 59, 10 ** 59),
                  ((10 ** 59, 1, 0), *leaf[1:])]
        for value in values:
            if value is not leaf:
                self.assertIs(shows_row(task, told, value), False)
            if value is not told:
                self.assertIs(shows_row(task, value, leaf), False)
            for part in range(1, 5):
                parts = parts_of(leaf)
                parts[part] = value
                self.assertIs(shows_row(task, told, tuple(parts)), False)
                parts[part] = [value]
                self.assertIs(shows_row(task, told, tuple(parts)), False)

    def test_nothing_is_changed(self):
        for task in self.tasks:
            leaf, told = paper(task), row(task)
            before = copy.deepcopy(leaf)
            self.assertIs(shows_row(task, told, leaf), True)
            check_same(self, leaf, before)
            self.assertIs(shows_row(task, told, list(leaf)), False)
            check_same(self, leaf, before)
            self.assertEqual((told, turn(task)), (row(task), leaf[0]))


class Conditions(Said):
    """A paper by hand, each condition broken alone: one name, one slot, one line; loading costs 2, storing 1."""

    def setUp(self):
        self.task = Task(work_of("given a; results a; loop; a = 2 * a; end"), 1, Prices(2, 1))
        start = {"- / a": (0, None, ()), "a / a": (2, None, ("load a",)), "a / -": (2, None, ("load a",))}
        after = {"a / -": (2, "a / a", ()), "a / a": (3, "a / a", ("store a",)), "- / a": (3, "a / a", ("store a",))}
        again = {"a / -": (2, "a / -", ()), "a / a": (3, "a / -", ("store a",)), "- / a": (3, "a / -", ("store a",))}
        head = {"- / a": (3, ("load a",), "a / -"), "a / a": (1, (), "a / -"), "a / -": (1, (), "a / -")}
        end = {"- / a": (0, (), None), "a / a": (0, (), None), "a / -": (1, ("store a",), None)}
        self.leaf = ((1, 1, 0), [dict(start)], [dict(start)], [[after], [again]], [head, end])
        self.row = Row([0, 3], 1, 0)

    def broken(self, part, places, key, entry):
        """The paper with another entry."""
        parts = parts_of(self.leaf)
        table = parts[part]
        for at in places:
            table = table[at]
        table[key] = entry
        return tuple(parts)

    def test_it_is_right(self):
        self.check(self.task, self.row, self.leaf, True)
        self.assertEqual(row(self.task), self.row)

    def test_rows_and_turns(self):
        for numbers, period, step, wanted in (
                ([0, 3], 1, 0, True), ([0, 3, 3, 3, 3, 3], 2, 0, True),
                # The number without rounds, with one, with the last one that is looked at.
                ([1, 3], 1, 0, False), ([0, 4, 3], 1, 0, False), ([0, 3, 3, 4], 1, 0, False), ([0, 3, 2], 1, 0, False),
                # It parts from the right row behind all of these: by its start, and by its period alone.
                ([0, 3, 3, 3, 9], 1, 0, False), ([0, 3, 3, 3], 1, 1, False), ([0, 3, 3, 3, 5], 3, 2, False)):
            self.check(self.task, Row(numbers, period, step), self.leaf, wanted)
        told = Row([0, 3, 3, 3, 5], 3, 2)
        self.assertEqual((told.start, told.period, told.step), (1, 3, 2))
        for turning in ((0, 2, 0), (0, 2, 1), (1, 1, 1), (2, 0, 0), (0, 1, 0), (1, 2, 0)):
            self.check(self.task, self.row, (turning, *self.leaf[1:]), False)
        again = self.leaf[3][1]
        self.check(self.task, self.row, ((1, 2, 0), *self.leaf[1:3], self.leaf[3] + [again], self.leaf[4]), True)
        self.check(self.task, self.row, ((2, 1, 0), *self.leaf[1:3], self.leaf[3] + [again], self.leaf[4]), True)
        self.check(self.task, self.row, ((0, 3, 0), *self.leaf[1:3], self.leaf[3] + [again], self.leaf[4]), False)
        self.check(self.task, self.row, ((0, 1, 0), *self.leaf[1:3], self.leaf[3][:1], self.leaf[4]), False)

    def test_entries_that_are_met_otherwise(self):
        for part, places, key, entry in (
                (3, (0, 0), "- / a", (3, "a / a", ("store a", "forget a"))), (3, (1, 0), "a / a", (3, "a / -", ("store a",))),
                (2, (0,), "a / -", (2, None, ("load a",))), (4, (0,), "- / a", (3, ("load a",), "a / -")),
                (3, (1, 0), "- / a", (3, "a / -", ("store a", "forget a", ))),
                (4, (1,), "a / -", (1, ("store a", "forget a"), None))):
            self.check(self.task, self.row, self.broken(part, places, key, entry), True)

    def test_entries_that_are_not_met(self):
        for part, places, key, entry in (
                (3, (0, 0), "a / -", (2, "- / a", ())), (3, (0, 0), "a / -", (2, None, ())),
                (3, (0, 0), "a / -", (2, "a / a", ("load a",))), (3, (0, 0), "a / a", (2, "a / a", ())),
                (3, (0, 0), "a / a", (3, "a / a", ("store a", "store a"))), (3, (0, 0), "- / a", (3, "a / a", ())),
                (2, (0,), "- / a", (0, "- / a", ())), (2, (0,), "a / a", (2, None, ())), (2, (0,), "a / a", (0, None, ())),
                (2, (0,), "a / a", (4, None, ("load a", "load a"))), (2, (0,), "a / a", (2, None, ("again a",))),
                (4, (0,), "- / a", (1, (), "a / -")), (4, (0,), "a / a", (0, (), "a / a")),
                (4, (0,), "a / -", (1, (), None)), (4, (0,), "a / -", (0, ("forget a",), "- / a")),
                (4, (1,), "a / -", (0, (), None)), (4, (1,), "a / -", (0, ("forget a",), None)),
                (4, (1,), "a / -", (1, ("store a",), "a / a")), (4, (1,), "- / a", (2, ("load a",), None))):
            self.check(self.task, self.row, self.broken(part, places, key, entry), False)

    def test_numbers_that_are_no_floors(self):
        for part, places, key, entry in (
                # Not 0 at the start; dearer than a better standing; than a move; than what the line brings.
                (1, (0,), "- / a", (2, None, ("load a", "forget a"))), (2, (0,), "- / a", (2, None, ("load a", "forget a"))),
                (2, (0,), "a / -", (4, None, ("load a", "forget a", "load a"))),
                (3, (0, 0), "- / a", (5, "a / a", ("store a", "forget a", "load a"))),
                (3, (0, 0), "a / -", (5, "a / a", ("store a", "forget a", "load a"))),
                (4, (0,), "a / a", (3, ("forget a", "load a"), "a / -")), (4, (1,), "- / a", (2, ("load a",), None)),
                (4, (1,), "a / -", (3, ("store a", "forget a", "load a"), None))):
            self.check(self.task, self.row, self.broken(part, places, key, entry), False)


if __name__ == "__main__":
    unittest.main()
