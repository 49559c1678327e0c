import itertools
import unittest

from leastcode.errors import BadPrice
from leastcode.prices import Prices
from leastcode.works import Tell, Work
from helping import ODD_VALUES, check_raises, check_same

NO_PRICES = [-1, 10, 11, 10 ** 59, True, False, None, "1", "", (), [1], {}, Work([], []), Tell("a")]


class Parts(unittest.TestCase):
    def test_all_prices(self):
        for load, store in itertools.product(range(10), repeat=2):
            prices = Prices(load, store)
            check_same(self, (prices.load, prices.store, prices.loads), (load, store, {}))
        for price in range(10):
            check_same(self, Prices(5, 6, {"b": price, "a": 9 - price}).loads, {"a": 9 - price, "b": price})

    def test_own_prices_left_out(self):
        for prices in (Prices(1, 2), Prices(1, 2, None), Prices(1, 2, {}), Prices(store=2, load=1, loads={})):
            check_same(self, prices.loads, {})
            self.assertEqual(prices.load_of("a"), 1)

    def test_load_of(self):
        prices = Prices(3, 4, loads={"a": 0, "b": 9, "c": 3})
        self.assertEqual([prices.load_of(name) for name in ("a", "b", "c", "d", "abcdef")], [0, 9, 3, 3, 3])
        check_same(self, prices.load_of(name="a"), 0)

    def test_names_stand_in_the_class(self):
        self.assertEqual(Prices.__module__, "leastcode.prices")
        for name in ("load", "store", "loads"):
            self.assertIsInstance(vars(Prices)[name], property)
        for name in ("load_of", "__eq__"):
            self.assertTrue(callable(vars(Prices)[name]))


class Errors(unittest.TestCase):
    def test_each_by_itself(self):
        for value in NO_PRICES:
            check_raises(self, BadPrice(value), Prices, value, 1)
            check_raises(self, BadPrice(value), Prices, 1, value)
            check_raises(self, BadPrice(value), Prices, 1, 1, {"a": value})
            check_raises(self, BadPrice(value), Prices, 1, 1, {"c": 1, "b": value, "a": 2})
        for value in ODD_VALUES:
            check_raises(self, BadPrice(value), Prices, value, 1)
            check_raises(self, BadPrice(value), Prices, 1, 1, {"b": value})

    def test_the_first_one_is_told(self):
        check_raises(self, BadPrice(10), Prices, 10, 11, {"a": 12})
        check_raises(self, BadPrice(11), Prices, 9, 11, {"a": 12})
        check_raises(self, BadPrice(12), Prices, 9, 9, {"c": 10, "b": 11, "a": 12})
        check_raises(self, BadPrice(11), Prices, 9, 9, {"c": 10, "b": 11, "aa": 0})
        check_raises(self, BadPrice(True), Prices, 1, 1, {"ab": True, "b": None, "a": 1})


class Equality(unittest.TestCase):
    def test_equal(self):
        for one, other in ((Prices(1, 2), Prices(1, 2)), (Prices(1, 2), Prices(1, 2, {"a": 1})),
                           (Prices(1, 2, {"a": 3}), Prices(1, 2, {"b": 1, "a": 3})),
                           (Prices(0, 0, {"a": 0, "b": 1}), Prices(0, 0, {"b": 1, "c": 0}))):
            self.assertIs(one == other, True)
            self.assertIs(one != other, False)
            self.assertIs(other == one, True)

    def test_unlike(self):
        many = [Prices(1, 2), Prices(2, 1), Prices(1, 1), Prices(2, 2), Prices(1, 2, {"a": 2}), Prices(1, 2, {"b": 2}),
                Prices(1, 2, {"a": 0}), Prices(1, 2, {"a": 2, "b": 2}), Prices(2, 2, {"a": 1}), Prices(1, 3, {"a": 2})]
        for one, other in itertools.permutations(many, 2):
            self.assertIs(one == other, False)
            self.assertIs(one != other, True)

    def test_other_kinds(self):
        for value in ODD_VALUES + [(1, 2), {"load": 1, "store": 2}, Tell("a"), Work([], [])]:
            self.assertIs(Prices(1, 2) == value, False)
            self.assertIs(value == Prices(1, 2), False)
            self.assertIs(Prices(1, 2) != value, True)
            self.assertIs(value != Prices(1, 2), True)


class LaterChanges(unittest.TestCase):
    def test_what_was_handed_in_and_back(self):
        loads = {"b": 5, "a": 4}
        prices = Prices(1, 2, loads)
        check_same(self, loads, {"b": 5, "a": 4})
        loads["a"] = 10
        del loads["b"]
        prices.loads["a"] = None
        prices.loads.clear()
        self.assertIsNot(prices.loads, prices.loads)
        check_same(self, prices.loads, {"a": 4, "b": 5})
        self.assertEqual([prices.load_of("a"), prices.load_of("b")], [4, 5])
        self.assertTrue(prices == Prices(1, 2, {"a": 4, "b": 5}))

    def test_they_never_change(self):
        for name in ("load", "store", "loads"):
            with self.assertRaises(AttributeError):
                setattr(Prices(1, 2), name, 3)


if __name__ == "__main__":
    unittest.main()
