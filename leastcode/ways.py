"""Least ways along roads: which moves are done at each place, and where the lines lead."""

from leastcode.entries import walk
from leastcode.grounds import settle
from leastcode.roads import brought_back, carried, end_numbers, start_numbers


class WayThere:
    """The least ways from where the work begins to the standings at the end of a road; each leads to just these."""

    def __init__(self, road, given):
        self.road = road
        self.reached = start_numbers(road.grounds[0], given)
        self.led = [settle(self.reached, road.grounds[0].edges)]
        self.sources = []
        for at, leads in enumerate(road.leads):
            ground = road.grounds[at + 1]
            self.reached, sources = carried(self.reached, leads, ground)
            self.sources.append(sources)
            self.led.append(settle(self.reached, ground.edges))

    def moves_to(self, spot):
        """For each place the moves on the way to a standing at the end."""
        found = []
        for at in range(len(self.led) - 1, -1, -1):
            ground = self.road.grounds[at]
            spot, moves = walk(spot, self.led[at], ground.edges, ground.moves())
            found.append(moves[::-1])
            if at > 0:
                spot = self.sources[at - 1][spot]
        return found[::-1]


class WayOn:
    """The least ways on from the standings at the beginning of a road, with these numbers to go at its end.

    Without such numbers the road ends where the work does, and moves are done behind all lines, too.
    """

    def __init__(self, road, numbers, results):
        self.road = road
        self.led = []
        if numbers is None:
            numbers = end_numbers(road.grounds[-1], results)
            self.led.append(settle(numbers, road.grounds[-1].edges_back))
        for at in range(len(road.leads) - 1, -1, -1):
            numbers = brought_back(numbers, road.leads[at])
            self.led.append(settle(numbers, road.grounds[at].edges_back))
        self.led = self.led[::-1]

    def moves_from(self, spot):
        """For each place the moves on the way from a standing, and the standing at the end of the road."""
        found = []
        for at, led in enumerate(self.led):
            ground = self.road.grounds[at]
            spot, moves = walk(spot, led, ground.edges_back, ground.moves_back())
            found.append(moves)
            if at < len(self.road.leads):
                spot = self.road.leads[at][spot]
        return found, spot
