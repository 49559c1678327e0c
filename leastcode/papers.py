"""Papers: how the least prices are had, place by place, until they come round."""

from leastcode.entries import tables_along, tables_from_start, tables_to_end
from leastcode.roads import Roads
from leastcode.tables import USUAL_MOST, turn


def paper(task, most=USUAL_MOST):
    """A paper that shows the row of the least prices: (turn, none, before, rounds, last)."""
    start, gap, rise = turn(task, most)
    work = task.work
    roads = Roads(task)
    _, none = tables_from_start(roads.without_rounds(), work.given)
    numbers, before = tables_from_start(roads.before_rounds(), work.given)
    road = roads.through_round()
    rounds = []
    for _ in range(start + gap):
        numbers, tables = tables_along(road, numbers)
        rounds.append(tables)
    last = tables_to_end(roads.through_last(), work.results)
    return (start, gap, rise), none, before, rounds, last
