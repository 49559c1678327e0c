import itertools
import random
import unittest

from leastcode.errors import BadNumber, TooMany
from leastcode.rows import Row
from leastcode.works import Tell, Work
from helping import ODD_VALUES, check_raises, check_same

NO_INTEGERS = [True, False, None, "1", "", (), [1], {}, Tell("a"), Work([], []), Row([1], 1, 1)]


def told(numbers, period, step, many):
    """The first numbers of a row, as the document tells them."""
    found = list(numbers)
    while len(found) < many:
        found.append(found[-period] + step)
    return found[:many]


def parts(row):
    return row.numbers, row.start, row.period, row.step


def comes_round(numbers, start, period):
    """Whether some numbers go on by one step from start on."""
    rises = {numbers[at + period] - numbers[at] for at in range(start, len(numbers) - period)}
    return len(rises) == 1


class LeastParts(unittest.TestCase):
    def test_told_as_they_are(self):
        row = Row([5, 1, 2, 4], 2, 7)
        check_same(self, parts(row), ((5, 1, 2, 4), 2, 2, 7))
        check_same(self, parts(Row((0, 3), 1, 0)), ((0, 3), 1, 1, 0))
        check_same(self, parts(Row(numbers=[4], period=1, step=-3)), ((4,), 0, 1, -3))

    def test_more_numbers(self):
        wanted = ((5, 1, 2, 4), 2, 2, 7)
        for many in range(4, 30):
            check_same(self, parts(Row(told([5, 1, 2, 4], 2, 7, many), 2, 7)), wanted)

    def test_a_multiple_of_the_period(self):
        wanted = ((5, 1, 2, 4), 2, 2, 7)
        for times in range(1, 8):
            for more in range(5):
                numbers = told([5, 1, 2, 4], 2, 7, 2 + 2 * times + more)
                check_same(self, parts(Row(numbers, 2 * times, 7 * times)), wanted)

    def test_a_later_start(self):
        check_same(self, parts(Row([1, 3, 5, 7, 9, 11], 1, 2)), ((1,), 0, 1, 2))
        check_same(self, parts(Row([0, 3, 5, 7, 9], 1, 2)), ((0, 3), 1, 1, 2))
        check_same(self, parts(Row([0, 1, 0, 1, 0, 1], 4, 0)), ((0, 1), 0, 2, 0))
        check_same(self, parts(Row([9, 0, 1, 0, 1, 0], 2, 0)), ((9, 0, 1), 1, 2, 0))
        check_same(self, parts(Row([0, 2, 3, 5], 2, 3)), ((0, 2), 0, 2, 3))

    def test_the_start_comes_ahead_of_the_period(self):
        # From 1 on one number more costs 1 more; from 0 on this is not so for any period.
        check_same(self, parts(Row([7, 1, 2, 3], 3, 3)), ((7, 1), 1, 1, 1))

    def test_drawn_rows(self):
        for seed in range(300):
            rng = random.Random(seed)
            numbers = [rng.randint(-2, 2) for _ in range(rng.randint(1, 9))]
            period, step = rng.randint(1, len(numbers)), rng.randint(-2, 2)
            row = Row(numbers, period, step)
            wanted = told(numbers, period, step, 60)
            check_same(self, [row[n] for n in range(60)], wanted)
            starts = [(start, many) for start in range(12) for many in range(1, 12) if comes_round(wanted, start, many)]
            check_same(self, (row.start, row.period), min(starts))
            check_same(self, row.step, wanted[row.start + row.period] - wanted[row.start])
            check_same(self, row.numbers, tuple(wanted[:row.start + row.period]))


class Numbers(unittest.TestCase):
    def test_near_and_far(self):
        row = Row([5, 1, 2, 4], 2, 7)
        check_same(self, [row[n] for n in range(8)], [5, 1, 2, 4, 9, 11, 16, 18])
        check_same(self, row[10 ** 60], 2 + 7 * ((10 ** 60 - 2) // 2))
        check_same(self, row[10 ** 60 + 1], 4 + 7 * ((10 ** 60 - 2) // 2))
        check_same(self, Row([0, 3], 1, 0)[10 ** 5000], 3)
        check_same(self, Row([3], 1, -1)[10 ** 100], 3 - 10 ** 100)

    def test_numbers_that_are_none(self):
        for n in [-1, -10 ** 59] + NO_INTEGERS + ODD_VALUES:
            check_raises(self, BadNumber(n), lambda at=n: Row([5, 1, 2, 4], 2, 7)[at])

    def test_it_has_no_end(self):
        with self.assertRaises(TypeError):
            list(Row([1], 1, 1))

    def test_very_many_digits(self):
        huge = 10 ** 5000
        row = Row([huge, -huge, 3 * huge, huge], 2, 2 * huge)
        check_same(self, parts(row), ((huge, -huge), 0, 2, 2 * huge))
        check_same(self, row[2 * huge + 1], -huge + 2 * huge * huge)
        text = str(Row([5, -huge, huge + 7], 1, -2 * huge))
        zeros = "0" * 5000
        self.assertTrue(text == f"5 -1{zeros} | 1{zeros[:-1]}7 + -2{zeros}")
        far = Row([10 ** 59], 1, 10 ** 59)
        for _ in range(7):
            far = Row([far[10 ** 59]], 1, far[far.step])
        self.assertTrue(str(far).startswith("| 1") and len(str(far)) > 500)
        for digits in (63, 64, 65, 127, 128, 129, 4299, 4300, 4301):
            for number in (10 ** digits - 1, 10 ** digits, 10 ** digits + 1):
                wanted = {-1: "9" * digits, 0: "1" + "0" * digits, 1: "1" + "0" * (digits - 1) + "1"}
                self.assertTrue(str(Row([number], 1, 0)) == f"| {wanted[number - 10 ** digits]} + 0")


class Texts(unittest.TestCase):
    def test_texts(self):
        for row, text in ((Row([0, 3], 1, 0), "0 | 3 + 0"), (Row([4], 1, 2), "| 4 + 2"),
                          (Row([0, 4, 5], 2, 3), "0 | 4 5 + 3"), (Row([-1, 0, 5, -7], 2, -3), "-1 0 | 5 -7 + -3"),
                          (Row([0, 2, 4, 6], 1, 2), "| 0 + 2"), (Row([10 ** 20], 1, -10 ** 20), f"| {10 ** 20} + {-10 ** 20}")):
            self.assertEqual(str(row), text)


class Bounds(unittest.TestCase):
    def test_2000_and_2001(self):
        for start, period in ((0, 2000), (1, 1999), (1000, 1000), (1999, 1)):
            # All rises of a period are 0 but one, and the rise ahead of it is another one.
            numbers = [5] * start + [0] * (period - 1) + [1]
            row = Row(numbers, period, 9)
            check_same(self, (row.start, row.period, len(row.numbers)), (start, period, 2000))
            check_raises(self, TooMany(2000), Row, [7] + numbers, period, 9)
            check_raises(self, TooMany(2000), Row, [5] * start + [0] * period + [1], period + 1, 9)

    def test_more_numbers_than_wanted(self):
        check_same(self, parts(Row([0] * 5000, 5000, 0)), ((0,), 0, 1, 0))
        check_same(self, parts(Row(list(range(3000)), 1500, 1500)), ((0,), 0, 1, 1))
        check_same(self, parts(Row([9] + [0, 1] * 2000, 2000, 0)), ((9, 0, 1), 1, 2, 0))
        check_raises(self, TooMany(2000), Row, [at * at for at in range(2001)], 1, 0)
        check_raises(self, TooMany(2000), Row, [at * at for at in range(3000)], 3000, 0)


class Errors(unittest.TestCase):
    def errors_in_order(self):
        return [(BadNumber([]), {"numbers": []}), (BadNumber(0), {"period": 0}), (BadNumber(None), {"step": None}),
                (BadNumber("a"), {"numbers": [1, "a"]}), (TooMany(2000), {"numbers": [at ** 3 for at in range(2002)]})]

    def test_each_by_itself(self):
        for error, named in self.errors_in_order():
            check_raises(self, error, Row, **{"numbers": [1, 2], "period": 1, "step": 0, **named})

    def test_two_at_once(self):
        for (error, named), (_, others) in itertools.combinations(self.errors_in_order(), 2):
            if not named.keys() & others.keys():
                check_raises(self, error, Row, **{"numbers": [1, 2], "period": 1, "step": 0, **named, **others})
        check_raises(self, BadNumber([]), Row, [], None, None)
        check_raises(self, BadNumber(3), Row, [1, None], 3, None)
        check_raises(self, BadNumber(None), Row, [1, "a"], 1, None)
        check_raises(self, BadNumber("a"), Row, [at ** 3 for at in range(2002)] + ["a", "b"], 1, 0)

    def test_numbers_that_are_no_rows(self):
        for value in [None, True, 5, "", "12", (), [], {}, {0: 1}, Tell("a"), Row([1], 1, 1)]:
            check_raises(self, BadNumber(value), Row, value, 1, 0)

    def test_periods_that_are_none(self):
        for value in [0, -1, 3, 10 ** 59] + NO_INTEGERS + ODD_VALUES:
            check_raises(self, BadNumber(value), Row, [1, 2], value, 0)
            check_raises(self, BadNumber(value), Row, (1, 2), value, 0)

    def test_steps_that_are_none(self):
        for value in NO_INTEGERS:
            check_raises(self, BadNumber(value), Row, [1, 2], 2, value)

    def test_items_that_are_no_integers(self):
        for value in NO_INTEGERS:
            check_raises(self, BadNumber(value), Row, [1, value, "last"], 2, 0)
            check_raises(self, BadNumber(value), Row, (value,), 1, 0)


class Equality(unittest.TestCase):
    def test_rows_told_otherwise(self):
        rows = [Row([0, 4, 5], 2, 3), Row([0, 4, 5, 7], 2, 3), Row((0, 4, 5, 7, 8, 10), 4, 6), Row([0, 4, 5, 7, 8], 2, 3)]
        for one, other in itertools.product(rows, repeat=2):
            self.assertIs(one == other, True)
            self.assertIs(one != other, False)

    def test_unlike(self):
        rows = [Row([0, 4, 5], 2, 3), Row([0, 4, 5], 1, 3), Row([0, 4, 5], 2, 4), Row([0, 4, 6], 2, 3),
                Row([0, 4, 5], 3, 3), Row([4, 5], 2, 3), Row([0], 1, 0), Row([0], 1, 1), Row([1], 1, 0)]
        for one, other in itertools.permutations(rows, 2):
            self.assertIs(one == other, False)
            self.assertIs(one != other, True)

    def test_other_kinds(self):
        for value in ODD_VALUES + [(0, 3), [0, 3], "0 | 3 + 0", Tell("a"), Work([], [])]:
            self.assertIs(Row([0, 3], 1, 0) == value, False)
            self.assertIs(value == Row([0, 3], 1, 0), False)
            self.assertIs(Row([0, 3], 1, 0) != value, True)
            self.assertIs(value != Row([0, 3], 1, 0), True)


class LaterChanges(unittest.TestCase):
    def test_a_list_that_is_changed(self):
        numbers = [0, 4, 5]
        row = Row(numbers, 2, 3)
        check_same(self, numbers, [0, 4, 5])
        numbers[1] = None
        numbers.append(7)
        check_same(self, parts(row), ((0, 4, 5), 1, 2, 3))
        check_same(self, [row[n] for n in range(5)], [0, 4, 5, 7, 8])

    def test_rows_never_change(self):
        for name in ("numbers", "start", "period", "step"):
            with self.assertRaises(AttributeError):
                setattr(Row([1], 1, 1), name, 1)

    def test_names_stand_in_the_class(self):
        self.assertEqual(Row.__module__, "leastcode.rows")
        for name in ("numbers", "start", "period", "step"):
            self.assertIsInstance(vars(Row)[name], property)
        for name in ("__getitem__", "__eq__", "__str__"):
            self.assertTrue(callable(vars(Row)[name]))


if __name__ == "__main__":
    unittest.main()
