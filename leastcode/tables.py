"""The tables of the least prices at the head of a round, their turns, and the row of the least prices."""

from leastcode.errors import BadNumber, TooMany
from leastcode.kinds import is_within
from leastcode.roads import Roads, from_end, from_start, least_end
from leastcode.rows import Row
from leastcode.turns import course_so_far, course_to_go

MOST_ROUNDS = 400
USUAL_MOST = 120


def table(task, r):
    """U_r: what it costs at least to have done r rounds and to be at each sound standing, or at a better one."""
    if not is_within(r, 0, MOST_ROUNDS):
        raise BadNumber(r)
    roads = Roads(task)
    return by_texts(roads, course_so_far(roads, r).numbers_at(r))


def table_to_go(task, j):
    """V_j: what it costs at least from each sound standing to the end, with j rounds to come."""
    if not is_within(j, 1, MOST_ROUNDS):
        raise BadNumber(j)
    roads = Roads(task)
    return by_texts(roads, course_to_go(roads, j).numbers_at(j - 1))


def by_texts(roads, numbers):
    """The numbers of the standings at the head of a round, by the texts of these."""
    return dict(zip(roads.head().texts(), numbers))


def turn(task, most=USUAL_MOST):
    """The turn of the tables: (s, p, q)."""
    return turning(course_so_far(Roads(task), most), most).came_round()


def turn_to_go(task, most=USUAL_MOST):
    """The turn to go: (s, p, q)."""
    early, gap, rise = turning(course_to_go(Roads(task), most), most).came_round()
    # The first table to go is that with one round to come.
    return early + 1, gap, rise


def turning(course, most):
    """The course, if it comes round."""
    if course.early is None:
        raise TooMany(most)
    return course


def row(task, most=USUAL_MOST):
    """The row of f: the least prices for every number of rounds."""
    roads = Roads(task)
    course = turning(course_so_far(roads, most), most)
    _, gap, rise = course.came_round()
    work = task.work
    without = roads.without_rounds()
    prices = [least_end(without, from_start(without, work.given), work.results)]
    to_go = from_end(roads.through_last(), work.results)
    # The last table brings nothing new: it is an earlier one and the rise.
    for numbers in course.tables[:-1]:
        prices.append(min([number + later for number, later in zip(numbers, to_go)]))
    return Row(prices, gap, rise)
