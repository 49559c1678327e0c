"""Rows: rules that give an integer for each n from 0, and go on for ever by a period and a step."""

from leastcode.errors import BadNumber, TooMany
from leastcode.kinds import decimal, is_from, is_integer, is_within

MOST_NUMBERS = 2000


def check_row(numbers, period, step):
    """Raise BadNumber for the first of these that is not what a row is made of."""
    if not isinstance(numbers, (list, tuple)) or not numbers:
        raise BadNumber(numbers)
    if not is_within(period, 1, len(numbers)):
        raise BadNumber(period)
    if not is_integer(step):
        raise BadNumber(step)
    for number in numbers:
        if not is_integer(number):
            raise BadNumber(number)


def least_period(rises):
    """The least period of a list that goes on by itself: one of the numbers that divide its length."""
    many = len(rises)
    for period in range(1, many):
        if many % period == 0 and rises[period:] == rises[:many - period]:
            return period
    return many


def least_start(rises, period, start):
    """The least index from which on the rises come round with the period, if they do so from start on."""
    while start > 0 and rises[start - 1] == rises[start - 1 + period]:
        start = start - 1
    return start


def row_words(numbers, start, step):
    """The words of the text of a row."""
    words = [decimal(number) for number in numbers]
    return [*words[:start], "|", *words[start:], "+", decimal(step)]


class Row:
    """A row of integers, kept with the least start, then the least period; it never changes."""

    def __init__(self, numbers, period, step):
        check_row(numbers, period, step)
        told = [*numbers, numbers[len(numbers) - period] + step]
        # The rises from each number to the next one come round just where the numbers do, without a step.
        rises = [told[at + 1] - told[at] for at in range(len(numbers))]
        many = least_period(rises[len(numbers) - period:])
        start = least_start(rises, many, len(numbers) - period)
        if start + many > MOST_NUMBERS:
            raise TooMany(MOST_NUMBERS)
        self._start = start
        self._period = many
        self._step = told[start + many] - told[start]
        self._numbers = tuple(told[:start + many])

    @property
    def start(self):
        """The least N from which on the row comes round."""
        return self._start

    @property
    def period(self):
        """The least p of this N."""
        return self._period

    @property
    def step(self):
        """By how much p numbers more are more."""
        return self._step

    @property
    def numbers(self):
        """The first N + p numbers."""
        return self._numbers

    def __getitem__(self, at):
        if not is_from(at, 0):
            raise BadNumber(at)
        if at < self._start:
            return self._numbers[at]
        times, rest = divmod(at - self._start, self._period)
        return self._numbers[self._start + rest] + times * self._step

    def __iter__(self):
        raise TypeError("a row has no end")

    def __eq__(self, other):
        return (isinstance(other, Row) and self._numbers == other._numbers and self._period == other._period
                and self._step == other._step)

    def __str__(self):
        return " ".join(row_words(self._numbers, self._start, self._step))
