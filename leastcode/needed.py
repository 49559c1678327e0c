"""Which names are needed at the places of a work."""

from leastcode.errors import BadPlace
from leastcode.kinds import is_within

PARTS = ("ahead", "loop", "behind")


def needed(work, place, *, first=True, further=True):
    """The names that are needed at a place, ascending.

    first tells whether a round follows the lines ahead, further whether one follows the present one.
    """
    if not is_place(work, place):
        raise BadPlace(place)
    part, index = place
    if part == "behind":
        return needed_rows(work.behind, work.results)[index]
    if part == "loop":
        later = needed_at_head(work) if further else needed_behind(work)
        return needed_rows(work.loop, later)[index]
    later = needed_at_head(work) if first else needed_behind(work)
    return needed_rows(work.ahead, later)[index]


def is_place(work, value):
    """Whether any value is a place of the work."""
    if not isinstance(value, tuple) or len(value) != 2:
        return False
    part, index = value
    if not isinstance(part, str) or part not in PARTS:
        return False
    return is_within(index, 0, len(lines_of(work, part)))


def lines_of(work, part):
    """The lines of a part of the work."""
    if part == "ahead":
        return work.ahead
    return work.loop if part == "loop" else work.behind


def needed_ahead(line, later):
    """The names that are needed ahead of a line, if these ones are needed behind it."""
    made = line.makes
    kept = [name for name in later if name != made]
    new = [name for name in line.uses if name not in kept]
    return tuple(sorted(kept + new)) if new else tuple(kept)


def needed_rows(lines, later):
    """The names that are needed at each place of some lines, if these ones are needed behind them."""
    rows = [later]
    for line in lines[::-1]:
        rows.append(needed_ahead(line, rows[-1]))
    return rows[::-1]


def needed_behind(work):
    """The names that are needed behind the last round."""
    return needed_rows(work.behind, work.results)[0]


def needed_at_head(work):
    """The names that are needed at the head of a round, with this round to come."""
    return needed_rows(work.loop, needed_behind(work))[0]


def needed_anywhere(work):
    """The names that are needed at each place of the work, with and without rounds to come."""
    head = needed_at_head(work)
    behind = needed_behind(work)
    rows = needed_rows(work.ahead, head) + needed_rows(work.ahead, behind)
    rows = rows + needed_rows(work.loop, head) + needed_rows(work.loop, behind)
    return rows + needed_rows(work.behind, work.results)
