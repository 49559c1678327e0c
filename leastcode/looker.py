"""Looks at papers: whether they show the rows of the least prices. It searches nothing."""

from leastcode.kinds import is_from
from leastcode.looks import looked_along, looked_from_start, looked_to_end
from leastcode.roads import Roads, least_end
from leastcode.rows import Row


def shows_row(task, row, paper):
    """Whether any two values are a row and a paper that shows that this is the row of the least prices."""
    if not isinstance(row, Row) or not is_paper(task.work, paper):
        return False
    turn, none, before, rounds, last = paper
    work = task.work
    roads = Roads(task)
    without = roads.without_rounds()
    at_end = looked_from_start(task, without, none)
    heads = looked_heads(task, roads, before, rounds)
    to_go = looked_to_end(task, roads.through_last(), last)
    if at_end is None or heads is None or to_go is None:
        return False
    if row[0] != least_end(without, at_end, work.results):
        return False
    return comes_round(heads, turn) and fits_turn(row, turn) and has_sums(row, heads, to_go)


def is_paper(work, value):
    """Whether any value has the form of a paper, as far as lists and the turn go."""
    if not isinstance(value, tuple) or len(value) != 5 or not is_turn(value[0]):
        return False
    turn, none, before, rounds, last = value
    ahead, loop, behind = len(work.ahead), len(work.loop), len(work.behind)
    if not is_list(none, ahead + behind + 1) or not is_list(before, ahead + 1) or not is_list(last, loop + behind + 1):
        return False
    return is_list(rounds, turn[0] + turn[1]) and all([is_list(tables, loop) for tables in rounds])


def is_turn(value):
    """Whether any value is a turn."""
    if not isinstance(value, tuple) or len(value) != 3:
        return False
    start, gap, rise = value
    return is_from(start, 0) and is_from(gap, 1) and is_from(rise, 0)


def is_list(value, many):
    """Whether any value is a list of so many items."""
    return isinstance(value, list) and len(value) == many


def looked_heads(task, roads, before, rounds):
    """The numbers at the heads of all rounds and behind the last one, or None if a table is not right."""
    numbers = looked_from_start(task, roads.before_rounds(), before)
    heads = [numbers]
    road = roads.through_round()
    for tables in rounds:
        if numbers is None:
            return None
        numbers = looked_along(task, road, tables, numbers)
        heads.append(numbers)
    return None if numbers is None else heads


def comes_round(heads, turn):
    """Whether the numbers at the last head are those at an earlier one and the rise."""
    start, _, rise = turn
    return heads[-1] == [number + rise for number in heads[start]]


def fits_turn(row, turn):
    """Whether a row that is right for the first numbers of rounds is right for all, by the turn."""
    start, gap, rise = turn
    return row.start <= start + 1 and gap % row.period == 0 and rise == gap // row.period * row.step


def has_sums(row, heads, to_go):
    """Whether the numbers of the row are the least sums of the prices so far and those to go."""
    for n, numbers in enumerate(heads, start=1):
        if row[n] != min([number + later for number, later in zip(numbers, to_go)]):
            return False
    return True
