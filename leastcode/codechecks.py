"""What the parts of a code must be."""

from leastcode.errors import BadCode
from leastcode.kinds import is_from, is_integer, is_name, is_within

MOST_REGISTERS = 4
MOST_NAMES = 6
MOST_MODULUS = 10 ** 18
LEAST_FIRST = 2
MOST_STAGES = 400
MOST_FACTOR = 999999
MOST_TERMS = 4
MOST_FACTORS = 3
MOST_TOLD = 3


def check_code(parts):
    """Raise BadCode with the name of the first part that is not what it must be."""
    registers, names, modulus, constants, inputs, results, first, period, begins, blocks, holdings, costs, rise = parts
    require("registers", is_within(registers, 1, MOST_REGISTERS))
    require("names", is_ascending(names) and len(names) <= MOST_NAMES)
    require("modulus", is_within(modulus, 2, MOST_MODULUS))
    require("constants", are_constants(constants, names, modulus))
    require("inputs", are_inputs(inputs, names, constants))
    require("results", are_of(results, names))
    require("first", is_within(first, LEAST_FIRST, MOST_STAGES))
    require("period", is_within(period, 1, MOST_STAGES))
    bounds = (registers, len(names), constants)
    require("begins", are_begins(begins, first + period, bounds))
    require("blocks", are_blocks(blocks, first + period, bounds) and is_closed(begins, blocks, first, period))
    require("holdings", are_holdings(holdings, greatest_label(begins, blocks), registers, names))
    require("costs", are_costs(costs, blocks))
    require("rise", is_integer(rise))


def require(part, fits):
    """Raise BadCode with the part unless it fits."""
    if not fits:
        raise BadCode(part)


def is_ascending(value):
    """Whether any value is an ascending tuple of names."""
    if not isinstance(value, tuple) or not all([is_name(name) for name in value]):
        return False
    return all([name < value[at + 1] for at, name in enumerate(value[:-1])])


def are_of(value, names):
    """Whether any value is an ascending tuple of these names."""
    return is_ascending(value) and all([name in names for name in value])


def are_constants(value, names, modulus):
    """Whether any value is a dict from cells to values."""
    if not isinstance(value, dict):
        return False
    cells = all([is_within(cell, 0, len(names) - 1) for cell in value])
    return cells and all([is_within(constant, 0, modulus - 1) for constant in value.values()])


def are_inputs(value, names, constants):
    """Whether any value is an ascending tuple of names whose cells have no constant."""
    return are_of(value, names) and all([names.index(name) not in constants for name in value])


def is_pair(value):
    """Whether any value is a pair."""
    return isinstance(value, tuple) and len(value) == 2


def are_registers(value, least, most, registers):
    """Whether any value is a tuple of at least and at most so many registers."""
    if not isinstance(value, tuple) or not least <= len(value) <= most:
        return False
    return all([is_within(register, 0, registers - 1) for register in value])


def are_terms(value, registers):
    """Whether any value is a sum of registers."""
    if not isinstance(value, tuple) or not 1 <= len(value) <= MOST_TERMS or not all([is_pair(term) for term in value]):
        return False
    factors = all([is_within(factor, -MOST_FACTOR, MOST_FACTOR) for factor, _ in value])
    return factors and all([are_registers(used, 0, MOST_FACTORS, registers) for _, used in value])


def is_instruction(value, bounds):
    """Whether any value is an instruction, with the registers, cells and constants that there are."""
    if not isinstance(value, tuple) or not value or not isinstance(value[0], str):
        return False
    registers, cells, constants = bounds
    if value[0] == "tell":
        return len(value) == 2 and are_registers(value[1], 1, MOST_TOLD, registers)
    if len(value) != 3:
        return False
    word, one, other = value
    if word == "store":
        return is_within(one, 0, cells - 1) and is_within(other, 0, registers - 1)
    if not is_within(one, 0, registers - 1):
        return False
    if word == "load":
        return is_within(other, 0, cells - 1)
    if word == "set":
        return is_within(other, 0, cells - 1) and other in constants
    return word == "let" and are_terms(other, registers)


def is_section(value, ends, bounds):
    """Whether any value is a pair of instructions and a label, None just where the work ends."""
    if not is_pair(value) or not isinstance(value[0], tuple):
        return False
    instructions, label = value
    if not (label is None if ends else is_from(label, 0)):
        return False
    return all([is_instruction(instruction, bounds) for instruction in instructions])


def are_begins(value, stages, bounds):
    """Whether any value is a tuple of the begins of all stages."""
    if not isinstance(value, tuple) or len(value) != stages:
        return False
    return all([is_section(begin, stage == 0, bounds) for stage, begin in enumerate(value)])


def is_key(value, stages):
    """Whether any value is a pair of a label and a stage that a block can have."""
    return is_pair(value) and is_from(value[0], 0) and is_within(value[1], 1, stages - 1)


def are_blocks(value, stages, bounds):
    """Whether any value is a dict of blocks."""
    if not isinstance(value, dict) or not all([is_key(key, stages) for key in value]):
        return False
    return all([is_section(block, key[1] == 1, bounds) for key, block in value.items()])


def is_closed(begins, blocks, first, period):
    """Whether there is a block wherever one is come to."""
    if not all([(begins[stage][1], stage) in blocks for stage in range(1, first + period)]):
        return False
    return all([follower in blocks for follower in followers(blocks, first, period)])


def followers(blocks, first, period):
    """The pairs of a label and a stage that are come to from blocks."""
    found = [(block[1], key[1] - 1) for key, block in blocks.items() if key[1] > 1]
    return found + [(block[1], first + period - 1) for key, block in blocks.items() if key[1] == first]


def greatest_label(begins, blocks):
    """The greatest label of begins and blocks."""
    labels = [label for _, label in begins[1:]] + [key[0] for key in blocks]
    return max(labels + [block[1] for key, block in blocks.items() if key[1] > 1])


def is_holding(value, registers, names):
    """Whether any value is a holding."""
    if not is_pair(value) or not isinstance(value[0], tuple) or len(value[0]) != registers:
        return False
    held, stored = value
    return all([name is None or isinstance(name, str) and name in names for name in held]) and are_of(stored, names)


def are_holdings(value, greatest, registers, names):
    """Whether any value is a tuple with a holding for each label."""
    if not isinstance(value, tuple) or len(value) <= greatest:
        return False
    return all([is_holding(holding, registers, names) for holding in value])


def are_costs(value, blocks):
    """Whether any value is a dict from just the keys of the blocks to integers."""
    if not isinstance(value, dict) or len(value) != len(blocks):
        return False
    keys = all([is_pair(key) and is_integer(key[0]) and is_integer(key[1]) and key in blocks for key in value])
    return keys and all([is_integer(cost) for cost in value.values()])
