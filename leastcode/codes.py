"""Codes: programs of the machine for all numbers of rounds."""

from leastcode.codechecks import check_code
from leastcode.errors import BadNumber
from leastcode.kinds import is_from


def stage_of(first, period, j):
    """The stage of an integer from 0."""
    return j if j < first else first + (j - first) % period


def is_flat_instruction(instruction):
    """Whether an instruction is no tell, and no let with a term of more than one register."""
    if instruction[0] == "tell":
        return False
    return instruction[0] != "let" or all([len(used) <= 1 for _, used in instruction[2]])


class Code:
    """A program of the machine with its holdings and costs; it never changes."""

    def __init__(self, registers, names, modulus, constants, inputs, results, first, period, begins, blocks, holdings,
                 costs, rise):
        check_code((registers, names, modulus, constants, inputs, results, first, period, begins, blocks, holdings,
                    costs, rise))
        self._registers = registers
        self._names = names
        self._modulus = modulus
        self._constants = dict(constants)
        self._inputs = inputs
        self._results = results
        self._first = first
        self._period = period
        self._begins = begins
        self._blocks = {key: blocks[key] for key in blocks}
        self._holdings = holdings
        self._costs = {key: costs[key] for key in costs}
        self._rise = rise

    @property
    def registers(self):
        """The number of registers."""
        return self._registers

    @property
    def names(self):
        """The names of the cells."""
        return self._names

    @property
    def modulus(self):
        """The modulus."""
        return self._modulus

    @property
    def constants(self):
        """A new dict from the cells of the fixed names to their constants."""
        return dict(self._constants)

    @property
    def inputs(self):
        """The names whose values are in their cells at the beginning."""
        return self._inputs

    @property
    def results(self):
        """The names whose cells are wanted at the end."""
        return self._results

    @property
    def first(self):
        """The first stage that comes round."""
        return self._first

    @property
    def period(self):
        """After how many rounds it comes round."""
        return self._period

    @property
    def begins(self):
        """For each stage the instructions ahead of the rounds, and the label behind them."""
        return self._begins

    @property
    def blocks(self):
        """A new dict from pairs of a label and a stage to the instructions of a round, and the label behind them."""
        return {key: self._blocks[key] for key in self._blocks}

    @property
    def holdings(self):
        """For each label what registers and cells hold there."""
        return self._holdings

    @property
    def costs(self):
        """A new dict from pairs of a label and a stage to the costs to go."""
        return {key: self._costs[key] for key in self._costs}

    @property
    def rise(self):
        """By how much a period of rounds more costs more."""
        return self._rise

    @property
    def is_flat(self):
        """Whether no block but those of the last round tells anything or multiplies registers."""
        later = [self._blocks[key][0] for key in self._blocks if key[1] > 1]
        return all([is_flat_instruction(instruction) for instructions in later for instruction in instructions])

    def stage(self, j):
        """The stage of an integer from 0."""
        if not is_from(j, 0):
            raise BadNumber(j)
        return stage_of(self._first, self._period, j)

    def __eq__(self, other):
        return isinstance(other, Code) and code_parts(self) == code_parts(other)


def code_parts(code):
    """All parts of a code."""
    return (code.registers, code.names, code.modulus, code.constants, code.inputs, code.results, code.first,
            code.period, code.begins, code.blocks, code.holdings, code.costs, code.rise)
