"""What a work says for a number of rounds: the told values, and those of the results at the end."""

from leastcode.errors import BadInput, BadNumber, TooMany
from leastcode.kinds import is_from, is_within

MOST_ROUNDS = 2000


def outcome(work, inputs, n):
    """What the work says for these inputs and n rounds: the told values, and a dict of the results."""
    modulus = work.modulus
    check_inputs(inputs, work.given, modulus)
    check_rounds(n, work.is_flat)
    # A name that is first made later on gets any value, for no line uses it before.
    values = {name: 0 for name in work.names}
    for name, pair in work.fixed.items():
        values[name] = pair[0]
    for name in work.given:
        values[name] = inputs[name]
    told = do_lines(work.ahead, values, modulus)
    if work.is_flat:
        values = values_behind(work.loop, values, n, modulus)
    else:
        for _ in range(n):
            told.extend(do_lines(work.loop, values, modulus))
    told.extend(do_lines(work.behind, values, modulus))
    return tuple(told), {name: values[name] for name in work.results}


def check_inputs(inputs, given, modulus):
    """Raise BadInput if any value is not a dict from just the given names to values."""
    if not isinstance(inputs, dict) or len(inputs) != len(given):
        raise BadInput(None)
    for name in given:
        if name not in inputs:
            raise BadInput(None)
    for name in given:
        if not is_within(inputs[name], 0, modulus - 1):
            raise BadInput(name)


def check_rounds(n, flat):
    """Raise if any value is no number of rounds, or one too great for what is not flat."""
    if not is_from(n, 0):
        raise BadNumber(n)
    if n > MOST_ROUNDS and not flat:
        raise TooMany(MOST_ROUNDS)


def do_lines(lines, values, modulus):
    """Do the lines one after another, each of which may change the values; the list of what they tell."""
    told = []
    for line in lines:
        if line.makes is None:
            told.extend([values[name] for name in line.uses])
        else:
            values[line.makes] = line.value.total(values, modulus)
    return told


def values_behind(lines, values, n, modulus):
    """The values of the names behind n rounds of lines with flat sums."""
    names = sorted(values)
    column = [*[values[name] for name in names], 1]
    column = done_often(round_rows(lines, names, modulus), column, n, modulus)
    return {name: column[at] for at, name in enumerate(names)}


def round_rows(lines, names, modulus):
    """What one round does: for each name, and then for 1, the factors of all of them in its new value."""
    many = len(names) + 1
    spots = {name: at for at, name in enumerate(names)}
    rows = [[1 if to == at else 0 for to in range(many)] for at in range(many)]
    for line in lines:
        row = [0] * many
        for factor, used in line.value.terms:
            old = rows[spots[used[0]]] if used else rows[-1]
            row = [(left + factor * right) % modulus for left, right in zip(row, old)]
        rows[spots[line.makes]] = row
    return rows


def done_often(rows, column, n, modulus):
    """The column behind n rounds, each of which does what the rows tell."""
    left = n
    while left > 0:
        if left & 1:
            column = [row_total(row, column, modulus) for row in rows]
        left = left >> 1
        if left > 0:
            rows = squared(rows, modulus)
    return column


def row_total(row, column, modulus):
    """The sum of the products of a row and a column."""
    return sum([factor * value for factor, value in zip(row, column)]) % modulus


def squared(rows, modulus):
    """What two rounds do, if one does what the rows tell."""
    columns = [[row[at] for row in rows] for at in range(len(rows))]
    return [[row_total(row, column, modulus) for column in columns] for row in rows]
