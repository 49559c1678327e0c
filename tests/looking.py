"""Looks at papers as the document says of leastcode/looker.py, and fails where one does not show its row."""

import unittest

from leastcode.rows import Row
from plain import all_moves, as_good, done, head_names, later_lines, moved, needed_of, sound_at, standing_of, text_of


def of_names(standing, names):
    return standing[0] & set(names), standing[1] & set(names)


class Place:
    """A place of the work: its needed names, its sound standings, and the table that a paper has for it."""

    def __init__(self, test, task, lines, table):
        self.names = needed_of(lines, task.work.results)
        self.keys = sound_at(task, self.names)
        test.assertIs(type(table), dict)
        test.assertEqual(sorted(table), sorted(text_of(key) for key in self.keys))
        for entry in table.values():
            test.assertIs(type(entry), tuple)
            test.assertEqual(len(entry), 3)
            test.assertIs(type(entry[0]), int)
        self.texts = [text_of(key) for key in self.keys]
        self.entries = {key: table[text_of(key)] for key in self.keys}
        self.numbers = {key: self.entries[key][0] for key in self.keys}


def places_of(test, task, rows, tables):
    test.assertIs(type(tables), list)
    test.assertEqual(len(tables), len(rows))
    return [Place(test, task, lines, table) for lines, table in zip(rows, tables)]


def done_moves(test, task, standing, moves, names):
    """The standing behind some moves of needed names, and their price."""
    test.assertIs(type(moves), tuple)
    whole = 0
    for move in moves:
        test.assertIn(move.split(" ")[1], names)
        step = moved(standing, move, task)
        test.assertIsNotNone(step, (text_of(standing), move))
        whole += step[0]
        standing = step[1]
    return standing, whole


def check_move_floors(test, task, place, back):
    """Moves lead from number to number by no more than their prices."""
    for key, number in place.numbers.items():
        for move in all_moves(place.names):
            step = moved(key, move, task)
            if step is not None and step[1] in place.numbers:
                other = place.numbers[step[1]]
                if back:
                    test.assertLessEqual(number, other + step[0])
                else:
                    test.assertLessEqual(other, number + step[0])


def check_forward(test, task, place, line=None, ahead=None):
    """The entries of a place are met, and its numbers are floors; without a line it is the beginning."""
    begin = (frozenset(), frozenset(task.work.given) & set(place.names))
    if ahead is None:
        test.assertEqual(place.numbers[begin], 0)
    for key, (number, before, moves) in place.entries.items():
        if ahead is None:
            test.assertIsNone(before)
            standing, start = begin, 0
        else:
            test.assertIn(before, ahead.texts)
            standing = standing_of(before)
            start = ahead.numbers[standing]
            standing = done(line, standing, task.slots)
            test.assertIsNotNone(standing)
            standing = of_names(standing, place.names)
        standing, whole = done_moves(test, task, standing, moves, place.names)
        test.assertTrue(as_good(standing, key), (text_of(standing), text_of(key)))
        test.assertEqual(number, start + whole)
        for other, least in place.numbers.items():
            if as_good(other, key):
                test.assertLessEqual(number, least)
    check_move_floors(test, task, place, False)
    for key, number in ({} if ahead is None else ahead.numbers).items():
        to = done(line, key, task.slots)
        if to is not None:
            test.assertLessEqual(place.numbers[of_names(to, place.names)], number)


def check_to_go(test, task, place, line=None, behind=None):
    """The entries to go of a place are met, and its numbers are floors; without a line it is the end."""
    results = set(task.work.results)
    for key, (number, moves, after) in place.entries.items():
        standing, whole = done_moves(test, task, key, moves, place.names)
        if behind is None:
            test.assertIsNone(after)
            test.assertLessEqual(results, standing[1])
            test.assertEqual(number, whole)
            if results <= key[1]:
                test.assertEqual(number, 0)
            continue
        standing = done(line, standing, task.slots)
        test.assertIsNotNone(standing)
        test.assertIn(after, behind.texts)
        test.assertTrue(as_good(standing, standing_of(after)))
        test.assertEqual(number, whole + behind.numbers[standing_of(after)])
        to = done(line, key, task.slots)
        if to is not None:
            test.assertLessEqual(number, behind.numbers[of_names(to, behind.names)])
    check_move_floors(test, task, place, True)


def check_road(test, task, places, lines):
    """The places of a road that begins where the work does."""
    check_forward(test, task, places[0])
    check_steps(test, task, places[0], places[1:], lines)


def check_steps(test, task, first, places, lines):
    """The places behind some lines, which follow the first one."""
    for place, line in zip(places, lines):
        check_forward(test, task, place, line, first)
        first = place


def check_rounds(test, task, head, rounds):
    """The rounds of a paper, which follow the head of the first one; the tables of all heads."""
    work = task.work
    rows = [later_lines(work, ("loop", index)) for index in range(1, len(work.loop) + 1)]
    heads = [head]
    for tables in rounds:
        places = places_of(test, task, rows, tables)
        check_steps(test, task, heads[-1], places, work.loop)
        heads.append(places[-1] if places else heads[-1])
    return heads


def check_last(test, task, last):
    """The tables to go; that of the head."""
    work = task.work
    lines = work.loop + work.behind
    places = places_of(test, task, [lines[at:] for at in range(len(lines) + 1)], last)
    for at, line in enumerate(lines):
        check_to_go(test, task, places[at], line, places[at + 1])
    check_to_go(test, task, places[-1])
    return places[0]


def check_paper(test, task, row, paper):
    """Fail unless the paper shows that the row is that of the least prices."""
    work = task.work
    test.assertIs(type(row), Row)
    test.assertIs(type(paper), tuple)
    turn, none, before, rounds, last = paper
    start, gap, rise = turn
    test.assertEqual([type(turn), type(start), type(gap), type(rise)], [tuple, int, int, int])
    test.assertTrue(start >= 0 and gap >= 1 and rise >= 0)
    lines = work.ahead + work.behind
    road = places_of(test, task, [lines[at:] for at in range(len(lines) + 1)], none)
    check_road(test, task, road, lines)
    test.assertEqual(row[0], min(number for key, number in road[-1].numbers.items() if set(work.results) <= key[1]))
    rows = [later_lines(work, ("ahead", index)) for index in range(len(work.ahead) + 1)]
    road = places_of(test, task, rows, before)
    check_road(test, task, road, work.ahead)
    test.assertIs(type(rounds), list)
    test.assertEqual(len(rounds), start + gap)
    heads = check_rounds(test, task, road[-1], rounds)
    test.assertEqual(heads[-1].names, head_names(work))
    test.assertEqual(heads[-1].numbers, {key: number + rise for key, number in heads[start].numbers.items()})
    to_go = check_last(test, task, last).numbers
    for n in range(1, start + gap + 2):
        test.assertEqual(row[n], min(number + to_go[key] for key, number in heads[n - 1].numbers.items()))
    test.assertLessEqual(row.start, start + 1)
    test.assertEqual(gap % row.period, 0)
    test.assertEqual(rise, gap // row.period * row.step)


def is_shown(task, row, paper):
    """Whether the paper shows that the row is that of the least prices."""
    try:
        check_paper(unittest.TestCase(), task, row, paper)
    except (AssertionError, TypeError, ValueError, AttributeError, IndexError, KeyError):
        return False
    return True
