"""The machine, and what it does with a code."""

from leastcode.codes import stage_of
from leastcode.outcomes import check_inputs, check_rounds
from leastcode.powers import do_rounds


class Ran:
    """What a run told and left, and how many loads, stores and sets of each cell were done."""

    def __init__(self, told, ends, load_counts, store_counts, set_counts):
        self.told = told
        self.ends = ends
        self.load_counts = load_counts
        self.store_counts = store_counts
        self.set_counts = set_counts

    def __eq__(self, other):
        return (isinstance(other, Ran) and self.told == other.told and self.ends == other.ends
                and self.load_counts == other.load_counts and self.store_counts == other.store_counts
                and self.set_counts == other.set_counts)


def run(code, inputs, n):
    """What the machine does with a code for n rounds, whether it can be read or not."""
    check_inputs(inputs, code.inputs, code.modulus)
    flat = code.is_flat
    check_rounds(n, flat)
    machine = Machine(code, inputs)
    machine.do_code(n, flat)
    names = code.names
    loads, stores, sets = [tuple(machine.counts[word]) for word in ("load", "store", "set")]
    ends = {name: machine.cell(names.index(name)) for name in code.results}
    return Ran(tuple(machine.said), ends, loads, stores, sets)


class Machine:
    """Registers and cells, by one index: the cells come behind the registers."""

    def __init__(self, code, inputs):
        names = code.names
        self.stages = (code.first, code.period)
        self.first_cell = code.registers
        self.remainder = code.modulus
        self.fixed_values = code.constants
        self.starts = code.begins
        self.sections = code.blocks
        self.held = {at: 0 for at in range(code.registers + len(names))}
        for name in code.inputs:
            self.held[code.registers + names.index(name)] = inputs[name]
        self.counts = {word: [0] * len(names) for word in ("load", "store", "set")}
        self.said = []

    def cell(self, index):
        """What a cell holds."""
        return self.held[self.first_cell + index]

    def do_code(self, n, flat):
        """Do the begin and the blocks for n rounds; flat tells whether many rounds can be done at once."""
        first, period = self.stages
        instructions, label = self.starts[stage_of(first, period, n)]
        self.do_all(instructions)
        left = n
        if flat and left >= first + period:
            # All turns but the last one go through the same stages, one after another.
            turns = (left - first) // period
            label = self.do_turns(label, left, turns)
            left = left - turns * period
        while left > 0:
            instructions, label = self.sections[label, stage_of(first, period, left)]
            self.do_all(instructions)
            left = left - 1

    def do_turns(self, label, n, turns):
        """Do so many turns of the stages that come round, from a label with n rounds to come; the last label."""
        seen = {}
        path = []
        while len(path) < turns and label not in seen:
            seen[label] = len(path)
            blocks, label = self.turn_from(label, n)
            path.append(blocks)
        if len(path) < turns:
            # From here on the labels come round, and with them all that is done.
            ring = path[seen[label]:]
            for blocks in path:
                self.do_all(blocks)
            many, rest = divmod(turns - len(path), len(ring))
            self.do_often([instruction for blocks in ring for instruction in blocks], many)
            for blocks in ring[:rest]:
                self.do_all(blocks)
            return list(seen)[seen[label] + rest]
        for blocks in path:
            self.do_all(blocks)
        return label

    def turn_from(self, label, n):
        """The instructions of the turn from a label, with n rounds to come, and the label behind it."""
        first, period = self.stages
        found = []
        for j in range(n, n - period, -1):
            instructions, label = self.sections[label, stage_of(first, period, j)]
            found.extend(instructions)
        return found, label

    def do_often(self, instructions, many):
        """Do some instructions many times; there is no tell among them, and no product of registers."""
        do_rounds([self.step_of(instruction) for instruction in instructions], self.held, many, self.remainder)
        for word, one, other in instructions:
            if word != "let":
                counts = self.counts[word]
                at = one if word == "store" else other
                counts[at] = counts[at] + many

    def step_of(self, instruction):
        """An instruction as leastcode/powers.py takes a step."""
        word, one, other = instruction
        if word == "load":
            return one, [(1, self.first_cell + other)]
        if word == "store":
            return self.first_cell + one, [(1, other)]
        if word == "set":
            return one, [(self.fixed_values[other], None)]
        return one, [(factor, used[0] if used else None) for factor, used in other]

    def do_all(self, instructions):
        """Do some instructions, one after another."""
        for instruction in instructions:
            word = instruction[0]
            if word == "tell":
                self.said.extend([self.held[register] for register in instruction[1]])
            elif word == "let":
                self.held[instruction[1]] = self.total(instruction[2])
            else:
                self.move(word, instruction[1], instruction[2])

    def move(self, word, one, other):
        """Do a load, a store or a set, and count it."""
        counts = self.counts[word]
        if word == "store":
            self.held[self.first_cell + one] = self.held[other]
            counts[one] = counts[one] + 1
            return
        self.held[one] = self.fixed_values[other] if word == "set" else self.cell(other)
        counts[other] = counts[other] + 1

    def total(self, terms):
        """The value of a sum of registers."""
        whole = 0
        for factor, used in terms:
            product = factor
            for register in used:
                product = product * self.held[register] % self.remainder
            whole = whole + product
        return whole % self.remainder
