"""Roads: the places along some lines, and how numbers for the standings there follow from one another."""

from leastcode.grounds import FAR, Ground, drop, settle
from leastcode.needed import needed_at_head, needed_rows
from leastcode.standings import code_of, codes_behind


class Road:
    """The grounds of the places along some lines, and where each line leads from each standing, by index or None."""

    def __init__(self, grounds, leads):
        self.grounds = grounds
        self.leads = leads


class Roads:
    """The roads of a task. Places where the same names are needed have the same ground."""

    def __init__(self, task):
        self.task = task
        self.at_head = needed_at_head(task.work)
        self._made = {}
        self._known = {}

    def along(self, lines, later):
        """The road along some lines, behind which these names are needed."""
        grounds = [self._ground(names) for names in needed_rows(lines, later)]
        slots = self.task.slots
        leads = [line_leads(line, grounds[at], grounds[at + 1], slots) for at, line in enumerate(lines)]
        return Road(grounds, leads)

    def _ground(self, names):
        """The ground where these names are needed."""
        if names not in self._made:
            self._made[names] = Ground(self.task, names)
        return self._made[names]

    def _road(self, kind, lines, later):
        """The road of this kind, which is made once."""
        if kind not in self._known:
            self._known[kind] = self.along(lines, later)
        return self._known[kind]

    def head(self):
        """The ground at the head of a round, with this round to come."""
        return self._ground(self.at_head)

    def without_rounds(self):
        """The road of the straight form without rounds."""
        work = self.task.work
        return self._road("none", work.ahead + work.behind, work.results)

    def before_rounds(self):
        """The road along the lines ahead, with a round to come."""
        return self._road("before", self.task.work.ahead, self.at_head)

    def through_round(self):
        """The road through a round that another one follows."""
        return self._road("round", self.task.work.loop, self.at_head)

    def through_last(self):
        """The road through the last round and along the lines behind."""
        work = self.task.work
        return self._road("last", work.loop + work.behind, work.results)


def line_leads(line, ground, behind, slots):
    """For each standing of a ground where the line leads, an index of the ground behind it, or None."""
    spots = behind.spots
    codes = codes_behind(line, ground.codes, ground.wanted, behind.wanted, slots)
    return [None if code is None else spots[code] for code in codes]


def start_spot(ground, given):
    """The index of the standing at the beginning, ahead of all moves: nothing in slots, the given names stored."""
    return ground.spots[code_of(ground.wanted, (), given)]


def start_numbers(ground, given):
    """The numbers at the beginning, ahead of all moves."""
    numbers = [FAR] * len(ground.codes)
    numbers[start_spot(ground, given)] = 0
    return numbers


def end_numbers(ground, results):
    """The numbers at the end, behind all moves: all results stored."""
    stored = code_of(ground.wanted, (), results)
    return [0 if code & stored == stored else FAR for code in ground.codes]


def carried(numbers, leads, ground):
    """The numbers that a line brings to the ground behind it, and for each the index it comes from, or None."""
    found = [FAR] * len(ground.codes)
    sources = [None] * len(found)
    for at, to in enumerate(leads):
        if to is not None and numbers[at] < found[to]:
            found[to] = numbers[at]
            sources[to] = at
    return found, sources


def brought_back(numbers, leads):
    """The numbers ahead of a line, from those behind it."""
    return [FAR if to is None else numbers[to] for to in leads]


def settle_all(numbers, ground):
    """Lower the numbers by moves, and where a standing is had with a better one."""
    settle(numbers, ground.edges)
    drop(numbers, ground.drops())


def forward(road, numbers):
    """The settled numbers at the end of a road, from those at its beginning."""
    for at, leads in enumerate(road.leads):
        ground = road.grounds[at + 1]
        numbers, _ = carried(numbers, leads, ground)
        settle_all(numbers, ground)
    return numbers


def from_start(road, given):
    """The settled numbers at the end of a road that begins where the work does."""
    numbers = start_numbers(road.grounds[0], given)
    settle_all(numbers, road.grounds[0])
    return forward(road, numbers)


def back(road, numbers):
    """The settled numbers to go at the beginning of a road, from those at its end."""
    for at in range(len(road.leads) - 1, -1, -1):
        numbers = brought_back(numbers, road.leads[at])
        settle(numbers, road.grounds[at].edges_back)
    return numbers


def from_end(road, results):
    """The settled numbers to go at the beginning of a road that ends where the work does."""
    numbers = end_numbers(road.grounds[-1], results)
    settle(numbers, road.grounds[-1].edges_back)
    return back(road, numbers)


def least_end(road, numbers, results):
    """The least of the numbers at the end of a road at which all results are stored."""
    ends = end_numbers(road.grounds[-1], results)
    return min([number for number, end in zip(numbers, ends) if end == 0])
