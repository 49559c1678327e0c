"""What kinds of values there are: integers, names, prices, numbers written in digits."""

from leastcode.errors import BadName, Twice

LETTERS = "abcdefghijklmnopqrstuvwxyz"
DIGITS = "0123456789"
BLOCK_DIGITS = 64
BLOCK = 10 ** 64
MOST_LETTERS = 6
MOST_PRICE = 9


def is_integer(value):
    """Whether any value is an integer; True and False are none."""
    return isinstance(value, int) and not isinstance(value, bool)


def is_from(value, least):
    """Whether any value is an integer that is not below least."""
    return is_integer(value) and value >= least


def is_within(value, least, most):
    """Whether any value is an integer from least to most."""
    return is_integer(value) and least <= value <= most


def is_price(value):
    """Whether any value is a price."""
    return is_within(value, 0, MOST_PRICE)


def is_name(value):
    """Whether any value is a name."""
    if not isinstance(value, str) or not 1 <= len(value) <= MOST_LETTERS:
        return False
    return all([letter in LETTERS for letter in value])


def is_decimal(word, most):
    """Whether a word is a number from 0 on of at most so many decimal digits, without leading zeros."""
    # The length is asked first, for Python refuses to read numbers of very many digits.
    if not 1 <= len(word) <= most or not all([digit in DIGITS for digit in word]):
        return False
    return word == "0" or word[0] != "0"


def decimal(number):
    """An integer in decimal digits, with a - if it is below 0."""
    if -BLOCK < number < BLOCK:
        return str(number)
    # Python refuses to write numbers of very many digits, so they are written block by block.
    left = abs(number)
    blocks = []
    while left >= BLOCK:
        left, low = divmod(left, BLOCK)
        blocks.append(str(low).zfill(BLOCK_DIGITS))
    blocks.append(str(left))
    if number < 0:
        blocks.append("-")
    return "".join(blocks[::-1])


def integer_of(word):
    """The integer that a word of decimal digits tells, with a - ahead of them if it is below 0, or None."""
    digits = word.removeprefix("-")
    if not digits.isascii() or not digits.isdigit():
        return None
    # Python refuses to read numbers of very many digits, so they are read block by block.
    first = len(digits) % BLOCK_DIGITS
    whole = int(digits[:first] or "0")
    for at in range(first, len(digits), BLOCK_DIGITS):
        whole = whole * BLOCK + int(digits[at:at + BLOCK_DIGITS])
    return whole if digits == word else -whole


def check_names(values):
    """Raise BadName with the first value that is no name, then Twice with the first name that stood before."""
    for value in values:
        if not is_name(value):
            raise BadName(value)
    for at, name in enumerate(values):
        if name in values[:at]:
            raise Twice(name)
