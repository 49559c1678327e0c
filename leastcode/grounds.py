"""Grounds: the sound standings where certain names are needed, and the moves between them."""

from leastcode.standings import moves_at, sound_standings, standing_text

# More than all numbers of tables: no way to a standing has been found yet.
FAR = 10 ** 18


class Ground:
    """The sound standings at the places where these names are needed, by index, and the moves between them.

    An edge is (index from, index to, price). Each list of edges has the texts of its moves beside it.
    """

    def __init__(self, task, wanted):
        fixed = task.work.fixed
        self.wanted = wanted
        self.standings = sound_standings(wanted, fixed, task.slots)
        self.spots = {standing: at for at, standing in enumerate(self.standings)}
        self.texts = [standing_text(standing) for standing in self.standings]
        steps = self._steps(task, fixed)
        self.edges = [(start, end, price) for start, end, price, _ in steps]
        self.moves = [text for _, _, _, text in steps]
        # What is still to come is known behind a move first, so these edges lead back, the last moves first.
        self.edges_back = [(end, start, price) for start, end, price in self.edges[::-1]]
        self.moves_back = self.moves[::-1]
        self.drops = self._drops()

    def _steps(self, task, fixed):
        """The moves from sound standings to sound ones: index from, index to, price, text."""
        prices = task.prices
        # In this order most ways of several moves are found at one go over the edges.
        found = {"store": [], "forget": [], "load": [], "again": []}
        for start, standing in enumerate(self.standings):
            for kind, name, behind in moves_at(standing, self.wanted, fixed, task.slots):
                if behind in self.spots:
                    price = price_of(kind, name, prices, fixed)
                    found[kind].append((start, self.spots[behind], price, f"{kind} {name}"))
        return [step for steps in found.values() for step in steps]

    def _drops(self):
        """Edges that cost nothing to the standings that have one stored name less: they are had with these ones."""
        found = []
        for start, (held, stored) in enumerate(self.standings):
            for at in range(len(stored)):
                less = (held, stored[:at] + stored[at + 1:])
                if less in self.spots:
                    found.append((start, self.spots[less], 0))
        return found


def price_of(kind, name, prices, fixed):
    """The price of a move."""
    if kind == "load":
        return prices.load_of(name)
    if kind == "again":
        return fixed[name][1]
    return prices.store if kind == "store" else 0


def settle(numbers, edges):
    """Lower the numbers along the edges as far as this goes; for each the index of the edge that did it, or None."""
    led = [None] * len(numbers)
    lowered = True
    while lowered:
        lowered = False
        for at, (start, end, price) in enumerate(edges):
            if numbers[start] + price < numbers[end]:
                numbers[end] = numbers[start] + price
                led[end] = at
                lowered = True
    return led
