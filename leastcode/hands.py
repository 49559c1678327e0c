"""Hands: which register holds which name, while moves and lines are written as instructions of the machine."""


class Hand:
    """The registers along a way: the name that each of them holds, or None."""

    def __init__(self, held, work):
        self.held = list(held)
        self.cells = {name: at for at, name in enumerate(work.names)}
        self.written = []

    def write_way(self, moves, lines, grounds):
        """Write the moves at each place, and the lines between; grounds are those of the places."""
        for at, texts in enumerate(moves):
            for text in texts:
                self.write_move(text)
            if at < len(lines):
                self.write_line(lines[at])
                self.forget_others(grounds[at + 1].wanted)

    def write_move(self, text):
        """Write a move; what is forgotten gives its register away, and there is nothing to write."""
        kind, _, name = text.partition(" ")
        cell = self.cells[name]
        if kind == "store":
            self.written.append(("store", cell, self.held.index(name)))
        elif kind == "forget":
            self.held[self.held.index(name)] = None
        else:
            register = self.held.index(None)
            self.held[register] = name
            self.written.append(("load" if kind == "load" else "set", register, cell))

    def write_line(self, line):
        """Write a line; a made value gets the register of the old one, or a free one."""
        made = line.makes
        if made is None:
            self.written.append(("tell", self.registers_of(line.uses)))
            return
        terms = tuple([(factor, self.registers_of(names)) for factor, names in line.value.terms])
        register = self.held.index(made if made in self.held else None)
        self.held[register] = made
        self.written.append(("let", register, terms))

    def registers_of(self, names):
        """The registers that hold these names."""
        return tuple([self.held.index(name) for name in names])

    def forget_others(self, names):
        """Give the registers of all other names away."""
        self.held = [name if name in names else None for name in self.held]
