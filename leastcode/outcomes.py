"""What a work says for a number of rounds: the told values, and those of the results at the end."""

from leastcode.errors import BadInput, BadNumber, TooMany
from leastcode.kinds import is_from, is_within
from leastcode.powers import do_rounds

MOST_ROUNDS = 2000


def outcome(work, inputs, n):
    """What the work says for these inputs and n rounds: the told values, and a dict of the results."""
    modulus = work.modulus
    check_inputs(inputs, work.given, modulus)
    check_rounds(n, work.is_flat)
    # A name that is first made later on gets any value, for no line uses it before.
    values = {name: 0 for name in work.names}
    for name, pair in work.fixed.items():
        values[name] = pair[0]
    for name in work.given:
        values[name] = inputs[name]
    told = do_lines(work.ahead, values, modulus)
    if work.is_flat:
        do_rounds(flat_steps(work.loop), values, n, modulus)
    else:
        for _ in range(n):
            told.extend(do_lines(work.loop, values, modulus))
    told.extend(do_lines(work.behind, values, modulus))
    return tuple(told), {name: values[name] for name in work.results}


def check_inputs(inputs, given, modulus):
    """Raise BadInput if any value is not a dict from just the given names to values."""
    if not isinstance(inputs, dict) or len(inputs) != len(given):
        raise BadInput(None)
    for name in given:
        if name not in inputs:
            raise BadInput(None)
    for name in given:
        if not is_within(inputs[name], 0, modulus - 1):
            raise BadInput(name)


def check_rounds(n, flat):
    """Raise if any value is no number of rounds, or one too great for what is not flat."""
    if not is_from(n, 0):
        raise BadNumber(n)
    if n > MOST_ROUNDS and not flat:
        raise TooMany(MOST_ROUNDS)


def do_lines(lines, values, modulus):
    """Do the lines one after another, each of which may change the values; the list of what they tell."""
    told = []
    for line in lines:
        if line.makes is None:
            told.extend([values[name] for name in line.uses])
        else:
            values[line.makes] = line.value.total(values, modulus)
    return told


def flat_steps(lines):
    """The steps of lines with flat sums, as leastcode/powers.py takes them."""
    found = []
    for line in lines:
        terms = [(factor, names[0] if names else None) for factor, names in line.value.terms]
        found.append((line.makes, terms))
    return found
