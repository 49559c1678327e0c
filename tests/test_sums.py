import copy
import itertools
import unittest

from leastcode.errors import BadSum, TooMany
from leastcode.sums import Sum
from helping import ODD_VALUES, check_raises, check_same

MOST = 999999

# Each sum with its text.
TEXTS = [
    ([(1, ())], "1"),
    ([(0, ())], "0"),
    ([(-1, ())], "-1"),
    ([(7, ())], "7"),
    ([(-7, ())], "-7"),
    ([(1, ("a",))], "a"),
    ([(-1, ("a",))], "-1 * a"),
    ([(0, ("a",))], "0 * a"),
    ([(2, ("a",))], "2 * a"),
    ([(-2, ("a", "b"))], "-2 * a * b"),
    ([(1, ("a", "b", "a"))], "a * b * a"),
    ([(-1, ("a", "a"))], "-1 * a * a"),
    ([(MOST, ("a", "b", "c"))], "999999 * a * b * c"),
    ([(-MOST, ())], "-999999"),
    ([(1, ("a",)), (1, ())], "a + 1"),
    ([(1, ("a",)), (-1, ())], "a - 1"),
    ([(1, ("a",)), (0, ())], "a + 0"),
    ([(1, ("a",)), (1, ("b",))], "a + b"),
    ([(1, ("a",)), (-1, ("b",))], "a - b"),
    ([(1, ("a",)), (0, ("b",))], "a + 0 * b"),
    ([(1, ("a",)), (2, ("b",))], "a + 2 * b"),
    ([(1, ("a",)), (-2, ("b", "b"))], "a - 2 * b * b"),
    ([(1, ()), (1, ()), (-1, ()), (-1, ())], "1 + 1 - 1 - 1"),
    ([(-1, ("x",)), (-1, ("y",)), (-MOST, ("z",)), (MOST, ("x", "y", "z"))],
     "-1 * x - y - 999999 * z + 999999 * x * y * z"),
    ([(2, ("a",)), (-3, ("b",)), (1, ())], "2 * a - 3 * b + 1"),
    ([(1, ("loop",)), (1, ("end",)), (1, ("abcdef",))], "loop + end + abcdef"),
]

# Texts that are near to those of sums.
NEAR = [
    "", " ", "a ", " a", "a  + b", "a +  b", "a+b", "a +b", "a*b", "a * b ", "A", "aB", "abcdefg", "a1", "\u00e9",
    "+ a", "- a", "-a", "+1", "a +", "a -", "a *", "* a", "2 *", "2 a", "a 2", "a b", "a + + b", "a * * b", "a + * b",
    "1 * a", "a + 1 * b", "a - 1 * b", "a - 0", "a - 0 * b", "a + -1", "a - -1", "a + -1 * b", "-0", "-0 * a", "00",
    "01", "-01", "a + 01", "a - 01", "1000000", "-1000000", "a + 1000000", "0000001", "1.0", "1e3", "0x1", "1_0",
    "\u0663", "\u00b2", "2 * 3", "a * 2", "a * b * c * d", "2 * a * a * a * a", "1 + 1 + 1 + 1 + 1", "a + b + c + d",
    "a * b * c + d", "a\n", "a\n+ b", "a\t+ b", "x = a", "--1", "-", "+", "*", "=", "- 1", "a = b", "(a)",
]


class Making(unittest.TestCase):
    def test_tuples_and_lists(self):
        wanted = ((2, ("a",)), (-3, ("b", "a")), (1, ()))
        for pair, row in itertools.product((tuple, list), repeat=2):
            terms = [pair((factor, row(names))) for factor, names in wanted]
            check_same(self, Sum(*terms).terms, wanted)

    def test_one_to_four_terms(self):
        for many in range(1, 5):
            check_same(self, Sum(*[(1, ())] * many).terms, ((1, ()),) * many)
        check_raises(self, BadSum(None), Sum)
        check_raises(self, TooMany(4), Sum, *[(1, ())] * 5)
        check_raises(self, TooMany(4), Sum, *[(1, ())] * 50)

    def test_factors(self):
        for factor in (-MOST, -1, 0, 1, MOST):
            check_same(self, Sum((factor, ())).terms, ((factor, ()),))
        for factor in (-MOST - 1, MOST + 1, 10 ** 59, -10 ** 59, True, False, None, "1", (), [1]):
            check_raises(self, BadSum(0), Sum, (factor, ()))
            check_raises(self, BadSum(1), Sum, (1, ()), (factor, ()))

    def test_names_of_a_term(self):
        for many in range(4):
            check_same(self, Sum((1, ("a",) * many)).terms, ((1, ("a",) * many),))
        check_raises(self, BadSum(0), Sum, (1, ("a",) * 4))
        check_raises(self, BadSum(0), Sum, (1, ("a", "b", "c", "d")))
        check_same(self, Sum((1, ("abcdef", "z"))).names, ("abcdef", "z"))

    def test_names_that_are_none(self):
        for value in ODD_VALUES:
            check_raises(self, BadSum(0), Sum, (1, (value,)))
            check_raises(self, BadSum(2), Sum, (1, ()), (1, ("a",)), [1, ["a", "b", value]])

    def test_arguments_that_are_no_terms(self):
        odd = ODD_VALUES + ["ab", 5, (1,), [1], (1, (), ()), ((), 1), {1: (), 2: ()}, (1, "a"), (1, "abc"), (1, None),
                            (1, {"a": 1}), Sum((1, ())), (1, Sum((1, ())))]
        for value in odd:
            check_raises(self, BadSum(0), Sum, value)
            check_raises(self, BadSum(3), Sum, (1, ()), (1, ()), (1, ()), value)

    def test_unlike_names(self):
        check_same(self, Sum((1, ("c", "a")), (1, ("c", "b", "a"))).names, ("c", "a", "b"))
        check_same(self, Sum((1, ("b",)), (0, ("a",)), (1, ("b",)), (2, ("c",))).names, ("b", "a", "c"))
        check_same(self, Sum((5, ())).names, ())
        check_raises(self, TooMany(3), Sum, (1, ("a", "b", "c")), (1, ("d",)))
        check_raises(self, TooMany(3), Sum, (1, ("a",)), (1, ("b",)), (0, ("c",)), (0, ("d",)))

    def test_order_of_errors(self):
        check_raises(self, TooMany(4), Sum, None, None, None, None, None)
        check_raises(self, TooMany(4), Sum, *[(1, ("a", "b", "c")), (1, ("d",)), 5, (1, ()), (1, ())])
        check_raises(self, BadSum(2), Sum, (1, ("a", "b", "c")), (1, ("d",)), 5, None)
        check_raises(self, BadSum(0), Sum, None, None)

    def test_flat(self):
        for names, flat in (((), True), (("a",), True), (("a", "a"), False), (("a", "b"), False), (("a",) * 3, False)):
            for factor in (-2, 0, 1):
                self.assertIs(Sum((factor, names)).is_flat, flat)
                self.assertIs(Sum((1, ("b",)), (factor, names)).is_flat, flat)

    def test_later_changes_have_no_effect(self):
        names = ["a", "b"]
        term = [2, names]
        found = Sum(term, (1, names))
        names.append("c")
        names[0] = "x"
        term[0] = 3
        term.append(1)
        check_same(self, found.terms, ((2, ("a", "b")), (1, ("a", "b"))))
        check_same(self, found.names, ("a", "b"))
        self.assertEqual(str(found), "2 * a * b + a * b")

    def test_arguments_are_not_changed(self):
        terms = [[2, ["b", "a"]], (1, ["a"])]
        kept = copy.deepcopy(terms)
        values = {"a": 10 ** 20, "b": -1, "x": 3}
        Sum(*terms).total(values, 7)
        check_same(self, terms, kept)
        check_same(self, values, {"a": 10 ** 20, "b": -1, "x": 3})


class Totals(unittest.TestCase):
    def test_against_plain_products(self):
        numbers = [0, 1, -1, 2, 96, 97, -98, 10 ** 18, -10 ** 18 - 1, 10 ** 59 + 7, -10 ** 400]
        for terms, _ in TEXTS:
            found = Sum(*terms)
            for at, modulus in itertools.product(range(len(numbers)), (2, 3, 97, 10 ** 18 - 1, 10 ** 18)):
                values = {name: numbers[(at + k) % len(numbers)] for k, name in enumerate(found.names)}
                wanted = 0
                for factor, names in terms:
                    for name in names:
                        factor *= values[name]
                    wanted += factor
                check_same(self, found.total(values, modulus), wanted % modulus)
                check_same(self, found.total(values=values, modulus=modulus), wanted % modulus)

    def test_more_values_than_names(self):
        self.assertEqual(Sum((2, ("a",))).total({"a": 4, "b": 5, "c": -1}, 100), 8)
        self.assertEqual(Sum((-3, ())).total({}, 100), 97)

    def test_remainder_is_not_below_0(self):
        self.assertEqual(Sum((-1, ("a",)), (-1, ())).total({"a": 0}, 10 ** 18), 10 ** 18 - 1)
        self.assertEqual(Sum((-1, ("a",))).total({"a": 1}, 2), 1)


class Equality(unittest.TestCase):
    def test_equal_terms(self):
        self.assertTrue(Sum((1, ("a",))) == Sum([1, ["a"]]))
        self.assertFalse(Sum((1, ("a",))) != Sum([1, ["a"]]))
        for k, (one, _) in enumerate(TEXTS):
            for n, (other, _) in enumerate(TEXTS):
                self.assertIs(Sum(*one) == Sum(*other), k == n)
                self.assertIs(Sum(*one) != Sum(*other), k != n)

    def test_order_of_terms_and_names_matters(self):
        self.assertFalse(Sum((1, ("a",)), (1, ("b",))) == Sum((1, ("b",)), (1, ("a",))))
        self.assertFalse(Sum((1, ("a", "b"))) == Sum((1, ("b", "a"))))

    def test_other_kinds(self):
        found = Sum((1, ("a",)))
        for value in ODD_VALUES + ["a", ((1, ("a",)),), 1]:
            self.assertIs(found == value, False)
            self.assertIs(value == found, False)
            self.assertIs(found != value, True)
            self.assertIs(value != found, True)


class Texts(unittest.TestCase):
    def test_texts(self):
        for terms, text in TEXTS:
            self.assertEqual(str(Sum(*terms)), text)

    def test_read(self):
        for terms, text in TEXTS:
            for found in (Sum.read(text), Sum.read(text=text)):
                self.assertIs(type(found), Sum)
                check_same(self, found.terms, tuple(terms))
                self.assertTrue(found == Sum(*terms))

    def test_read_of_many_sums(self):
        rows = [(), ("a",), ("b", "a"), ("a", "c", "a")]
        factors = (-MOST, -10, -1, 0, 1, 2, 100000)
        for one, other in itertools.product(itertools.product(factors, rows), repeat=2):
            for terms in ((one,), (one, other), (other, one, other, one)):
                found = Sum(*terms)
                self.assertTrue(Sum.read(str(found)) == found)

    def test_near_texts(self):
        for text in NEAR:
            check_raises(self, BadSum(None), Sum.read, text)

    def test_one_sign_more_or_less(self):
        for _, text in TEXTS:
            for at in range(len(text) + 1):
                for near in [text[:at] + sign + text[at:] for sign in " 1a*-"] + [text[:at] + text[at + 1:]]:
                    self.check_text_or_error(near)

    def check_text_or_error(self, text):
        try:
            found = Sum.read(text)
        except BadSum as error:
            check_same(self, error.at, None)
        else:
            self.assertEqual(str(found), text)

    def test_values_that_are_no_strings(self):
        for value in ODD_VALUES + [5, b"a", Sum((1, ("a",))), 0]:
            if value not in ("1", "a"):
                check_raises(self, BadSum(None), Sum.read, value)

    def test_long_texts(self):
        for text in ("a" * 2000, "1" * 20000, "-" + "1" * 5000, "a + " * 500, " " * 2000, "a * " * 500):
            check_raises(self, BadSum(None), Sum.read, text)


class Interface(unittest.TestCase):
    def test_names_stand_in_the_class(self):
        for name in ("terms", "names", "is_flat"):
            self.assertIsInstance(vars(Sum)[name], property)
        self.assertIsInstance(vars(Sum)["read"], classmethod)
        for name in ("total", "__eq__", "__str__"):
            self.assertTrue(callable(vars(Sum)[name]))
        self.assertEqual(Sum.__module__, "leastcode.sums")


if __name__ == "__main__":
    unittest.main()
