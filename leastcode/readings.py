"""Readings: instructions taken as doing some lines, by the names that registers and cells hold."""

from leastcode.works import Let, Tell


class Reading:
    """What registers and cells hold along some instructions, and which lines are left to be done."""

    def __init__(self, cell_names, holding, lines):
        held, stored = holding
        self.cell_names = cell_names
        self.held = list(held)
        self.stored = {name: True for name in stored}
        self.lines = lines
        self.done = 0

    def read_all(self, instructions):
        """Read the instructions; the index of the first one that cannot be read and a word for why, or None."""
        for at, instruction in enumerate(instructions):
            word = self.read_one(instruction)
            if word is not None:
                return at, word
        return None if self.done == len(self.lines) else (len(instructions), "lines")

    def read_one(self, instruction):
        """Read an instruction; a word for why it cannot be read, or None."""
        word = instruction[0]
        if word == "tell":
            return self.read_tell(instruction[1])
        if word == "let":
            return self.read_let(instruction[1], instruction[2])
        if word == "store":
            return self.read_store(instruction[1], instruction[2])
        return self.read_load(word, instruction[1], instruction[2])

    def read_load(self, word, register, cell):
        """Read a load or a set."""
        name = self.cell_names[cell]
        if word == "load" and name not in self.stored:
            return "unstored"
        self.held[register] = name
        return None

    def read_store(self, cell, register):
        """Read a store."""
        name = self.cell_names[cell]
        if self.held[register] != name:
            return "unheld"
        self.stored[name] = True
        return None

    def read_let(self, register, terms):
        """Read a let."""
        if self.done == len(self.lines) or not isinstance(self.lines[self.done], Let):
            return "line"
        line = self.lines[self.done]
        if tuple([(factor, self.names_in(used)) for factor, used in terms]) != line.value.terms:
            return "sum"
        made = line.makes
        if self.held[register] != made and any([register in used for _, used in terms]):
            return "over"
        # No other register holds the present value of the name any more, and no cell does.
        self.held = [None if name == made else name for name in self.held]
        self.held[register] = made
        self.stored.pop(made, None)
        self.done = self.done + 1
        return None

    def read_tell(self, registers):
        """Read a tell."""
        if self.done == len(self.lines) or not isinstance(self.lines[self.done], Tell):
            return "line"
        if self.names_in(registers) != self.lines[self.done].names:
            return "names"
        self.done = self.done + 1
        return None

    def names_in(self, registers):
        """The names that these registers hold."""
        return tuple([self.held[register] for register in registers])

    def covers(self, holding):
        """Whether registers and cells hold all that a holding says."""
        held, stored = holding
        same = all([name is None or name == own for name, own in zip(held, self.held)])
        return same and self.has_stored(stored)

    def has_stored(self, names):
        """Whether these names are all stored."""
        return all([name in self.stored for name in names])
