"""The least price of a straight form."""

from leastcode.roads import Roads, from_start, least_end


def least_price(task, n):
    """f(n): the least sum of the prices of the moves of a right plan for n rounds."""
    work = task.work
    road = Roads(task).along(work.straight(n), work.results)
    return least_end(road, from_start(road, work.given), work.results)
