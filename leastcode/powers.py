"""Rounds of steps that are done very often, each of which makes a value by a flat sum.

A step is a pair (key, terms): the key gets the sum of the terms, which are pairs (factor, key), the key None for 1.
"""

# For fewer rounds than these the steps themselves are done sooner than their powers are found.
FEW_ROUNDS = 12


def do_steps(steps, values, modulus):
    """Do the steps one after another, each of which changes the values."""
    for key, terms in steps:
        total = 0
        for factor, used in terms:
            total = total + (factor if used is None else factor * values[used])
        values[key] = total % modulus


def do_rounds(steps, values, n, modulus):
    """Do the steps n times, which changes the values."""
    if n < FEW_ROUNDS:
        for _ in range(n):
            do_steps(steps, values, modulus)
        return
    keys = carried_keys(steps)
    if keys:
        column = [*[values[key] for key in keys], 1]
        column = column_behind(round_rows(steps, keys, values, modulus), column, n - 1, modulus)
        for at, key in enumerate(keys):
            values[key] = column[at]
    # What is made in a round and used in no later one is what the last round makes of the carried values.
    do_steps(steps, values, modulus)


def carried_keys(steps):
    """The keys that the steps make, and use before they make them: only these values are had from the round ahead."""
    made = {key: True for key, _ in steps}
    there = {}
    found = {}
    for key, terms in steps:
        for _, used in terms:
            if used in made and used not in there:
                found[used] = True
        there[key] = True
    return list(found)


def round_rows(steps, keys, values, modulus):
    """What one round does: for each of the keys, and then for 1, the factors of all of them in its new value."""
    many = len(keys) + 1
    rows = {key: [1 if to == at else 0 for to in range(many)] for at, key in enumerate(keys)}
    for key, terms in steps:
        row = [0] * many
        for factor, used in terms:
            if used in rows:
                row = [left + factor * right for left, right in zip(row, rows[used])]
            else:
                row[-1] = row[-1] + (factor if used is None else factor * values[used])
        rows[key] = [factor % modulus for factor in row]
    return [*[rows[key] for key in keys], [0] * len(keys) + [1]]


def row_total(row, column):
    """The sum of the products of a row and a column."""
    return sum([factor * value for factor, value in zip(row, column)])


def column_behind(rows, column, n, modulus):
    """The column behind n rounds, each of which does what the rows tell."""
    # The rows satisfy their own equation, so their n-th power is a sum of the first powers.
    factors = rest_of_power(n, equation(rows, modulus), modulus)
    found = [0] * len(column)
    for factor in factors:
        found = [total + factor * value for total, value in zip(found, column)]
        column = [row_total(row, column) % modulus for row in rows]
    return [total % modulus for total in found]


def equation(rows, modulus):
    """The factors of the characteristic polynomial of the rows, the highest power first.

    It is made without a division (by the way of Samuelson and Berkowitz), for by the modulus there may be none.
    """
    factors = [1]
    for many in range(len(rows)):
        corner = [row[:many] for row in rows[:many]]
        column = [row[many] for row in rows[:many]]
        side = rows[many][:many]
        new = [1, -rows[many][many]]
        for _ in range(many):
            new.append(-row_total(side, column))
            column = [row_total(row, column) % modulus for row in corner]
        # Each factor is the sum of the products of old and new ones whose powers fit.
        factors = [row_total(factors[:at + 1], new[at::-1]) % modulus for at in range(many + 2)]
    return factors


def rest_of_power(n, factors, modulus):
    """What x to the power of n leaves by a polynomial, the factor of the lowest power first."""
    many = len(factors) - 1
    width = (2 * many * modulus * modulus).bit_length()
    shifts = [width * at for at in range(many)]
    mask = (1 << width) - 1
    half = width * many
    high = high_powers(factors, width, modulus)
    # All factors of a polynomial lie side by side in one number, so that one product multiplies them all.
    packed = 1
    for bit in range(n.bit_length() - 1, -1, -1):
        square = packed * packed
        if n >> bit & 1:
            square = square << width
        total = square & ((1 << half) - 1)
        square = square >> half
        total = total + sum([(square >> shift & mask) % modulus * power for shift, power in zip(shifts, high)])
        packed = 0
        for shift in shifts:
            packed = packed | (total >> shift & mask) % modulus << shift
    return [packed >> shift & mask for shift in shifts]


def high_powers(factors, width, modulus):
    """What the powers of x from the degree of a polynomial on leave by it, as many as the degree, each packed."""
    low = [-factor % modulus for factor in factors[:0:-1]]
    row = low
    found = []
    for _ in range(len(low)):
        found.append(sum([factor << width * at for at, factor in enumerate(row)]))
        top = row[-1]
        row = [(before + top * factor) % modulus for before, factor in zip([0, *row[:-1]], low)]
    return found
