"""Grounds: the sound standings where certain names are needed, and the moves between them."""

from leastcode.standings import sound_codes, texts_of

# More than all numbers of tables: no way to a standing has been found yet.
FAR = 10 ** 18

# In this order most ways of several moves are found at one go over the edges.
KINDS = ("store", "forget", "load", "again")


class Ground:
    """The sound standings at the places where these names are needed, by index, and the moves between them.

    An edge is (index from, index to, price); each move is a text, which has the index of its edge. Edges back are
    turned round, for numbers to go.
    """

    def __init__(self, task, wanted):
        fixed = task.work.fixed
        self.wanted = wanted
        self.codes = sound_codes(wanted, fixed, task.slots)
        self.spots = {code: at for at, code in enumerate(self.codes)}
        groups = {kind: [] for kind in KINDS}
        for at, name in enumerate(wanted):
            again = fixed[name][1] if name in fixed else None
            found = self._edges_of(1 << at, task.prices.load_of(name), task.prices.store, again)
            for kind in KINDS:
                groups[kind].append((f"{kind} {name}", found[kind]))
        self._groups = [group for kind in KINDS for group in groups[kind]]
        self.edges = [edge for _, edges in self._groups for edge in edges]
        # What is still to come is known behind a move first, so the last moves come first here.
        self.edges_back = [(end, start, price) for start, end, price in self.edges[::-1]]
        self._moves = None
        self._moves_back = None
        self._texts = None
        self._drops = None

    def _edges_of(self, held, load, store, again):
        """The edges of the moves of the name with this bit, by their kinds; again is None if it is not fixed."""
        stored = held << len(self.wanted)
        spots = self.spots
        there = [(at, code) for at, code in enumerate(self.codes) if code & held]
        both = [(at, spots[code ^ held]) for at, code in there if code & stored]
        found = {"store": [(at, spots[code | stored], store) for at, code in there if not code & stored],
                 "load": [(less, at, load) for at, less in both], "again": []}
        if again is not None:
            # Without its slot the name is nowhere, and can be had again.
            both = both + [(at, spots[code ^ held]) for at, code in there if not code & stored]
            found["again"] = [(less, at, again) for at, less in both]
        found["forget"] = [(at, less, 0) for at, less in both]
        return found

    def moves(self):
        """The texts of the moves of the edges."""
        if self._moves is None:
            self._moves = [text for text, edges in self._groups for _ in edges]
        return self._moves

    def moves_back(self):
        """The texts of the moves of the edges back."""
        if self._moves_back is None:
            self._moves_back = self.moves()[::-1]
        return self._moves_back

    def texts(self):
        """The texts of the standings."""
        if self._texts is None:
            self._texts = texts_of(self.wanted, self.codes)
        return self._texts

    def drops(self):
        """Edges that cost nothing to the standings that have one stored name less: they are had with these ones."""
        if self._drops is None:
            found = []
            for at in range(len(self.wanted), 2 * len(self.wanted)):
                stored = 1 << at
                less = [(spot, code ^ stored) for spot, code in enumerate(self.codes) if code & stored]
                found.extend([(spot, self.spots[code], 0) for spot, code in less if code in self.spots])
            self._drops = found
        return self._drops


def settle(numbers, edges):
    """Lower the numbers along the edges as far as this goes; for each the index of the edge that did it, or None."""
    led = [None] * len(numbers)
    while lower(numbers, edges, led):
        pass
    return led


def lower(numbers, edges, led):
    """Go over the edges once, lower the numbers along them, and note which edges led to them; whether any did."""
    lowered = False
    for at, (start, end, price) in enumerate(edges):
        number = numbers[start] + price
        if number < numbers[end]:
            numbers[end] = number
            led[end] = at
            lowered = True
    return lowered


def drop(numbers, drops):
    """Lower the numbers along the edges of drops; for each the index of the edge that did it, or None."""
    led = [None] * len(numbers)
    # The edges are in the order of the names, so that each way of several drops is found at one go.
    lower(numbers, drops, led)
    return led
