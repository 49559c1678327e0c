import itertools
import unittest

from leastcode.errors import (BadInput, BadName, BadNumber, BadPrice, BadWork, MadeAgain, TooMany, Twice, Unmade)
from leastcode.sums import Sum
from leastcode.works import Let, Tell, Work
from helping import ODD_VALUES, check_raises, check_same


def let(text):
    """The line with this text."""
    name, value = text.split(" = ")
    return Let(name, Sum.read(value))


def body():
    """The lines of the loop of the example."""
    return [Tell("a"), let("c = a + b"), let("a = b"), let("b = c")]


def full(**named):
    """A work that has something of everything, with some arguments exchanged."""
    parts = {"ahead": [let("x = 1"), Tell("c", "a")], "loop": [let("x = x * a + c"), Tell("x")],
             "behind": [let("y = x - c")], "given": ["b", "a"], "fixed": {"d": (0, 9), "c": (96, 0)},
             "results": ["y", "a", "d"], "modulus": 97}
    parts.update(named)
    return Work(**parts)


ONE = let("x = 1")
TWO = let("y = 2")
ODD_NUMBERS = [None, True, False, "1", "", (), [1], {}, [], Sum((1, ()))]


class Properties(unittest.TestCase):
    def test_all_of_them(self):
        work = full()
        check_same(self, work.ahead, (let("x = 1"), Tell("c", "a")))
        check_same(self, work.loop, (let("x = x * a + c"), Tell("x")))
        check_same(self, work.behind, (let("y = x - c"),))
        check_same(self, work.given, ("a", "b"))
        check_same(self, work.fixed, {"c": (96, 0), "d": (0, 9)})
        check_same(self, work.results, ("a", "d", "y"))
        check_same(self, work.modulus, 97)
        check_same(self, work.names, ("a", "b", "c", "d", "x", "y"))
        self.assertEqual(work.room, 3)
        self.assertIs(work.is_flat, False)

    def test_what_is_left_out(self):
        work = Work([], [])
        for name in ("ahead", "loop", "behind", "given", "results", "names"):
            check_same(self, getattr(work, name), ())
        check_same(self, work.fixed, {})
        check_same(self, Work([], [], fixed={}).fixed, {})
        check_same(self, work.modulus, 4294967296)
        self.assertEqual(work.room, 1)
        self.assertIs(work.is_flat, True)

    def test_by_position_and_by_name(self):
        self.assertTrue(Work([ONE], [TWO], [ONE]) == Work(ahead=[ONE], behind=[ONE], loop=[TWO]))
        with self.assertRaises(TypeError):
            Work([], [], [], ["a"])

    def test_parts_as_lists_and_as_tuples(self):
        for kind, other in itertools.product((list, tuple), repeat=2):
            work = Work(kind([ONE]), other(body()), kind([TWO]), given=other(["b", "a"]), results=kind(["y", "x"]))
            check_same(self, work.ahead, (ONE,))
            check_same(self, work.loop, tuple(body()))
            check_same(self, work.behind, (TWO,))
            check_same(self, (work.given, work.results), (("a", "b"), ("x", "y")))
            self.assertTrue(work == Work([ONE], body(), [TWO], given=["a", "b"], results=["x", "y"]))

    def test_names_of_all_kinds(self):
        check_same(self, Work([], [], given=["g"]).names, ("g",))
        check_same(self, Work([], [], fixed={"f": (1, 1)}).names, ("f",))
        check_same(self, Work([], [let("m = 1")]).names, ("m",))
        check_same(self, Work([], [], [let("m = 1")], given=["b", "a"]).names, ("a", "b", "m"))

    def test_results_of_each_kind(self):
        work = Work([let("d = 1")], [], [let("c = 1")], given=["b"], fixed={"a": (1, 1)}, results=["d", "c", "b", "a"])
        check_same(self, work.results, ("a", "b", "c", "d"))


class Room(unittest.TestCase):
    def test_lines(self):
        rooms = {"x = 1": 1, "x = x": 1, "x = a": 2, "x = 2 * x * x + 1": 1, "x = a * x": 2, "x = 0 * a - b": 3,
                 "x = a * b * x": 3, "x = a + b + c": 4, "a = a * b * c": 3}
        for text, room in rooms.items():
            for part in ("ahead", "loop", "behind"):
                parts = {"ahead": [], "loop": [], "behind": [], part: [let(text)]}
                self.assertEqual(Work(given=["a", "b", "c", "x"], **parts).room, room, text)

    def test_tells(self):
        for names in (["a"], ["a", "b"], ["c", "b", "a"]):
            self.assertEqual(Work([], [Tell(*names)], given=["a", "b", "c"]).room, len(names))

    def test_greatest_of_all_lines(self):
        self.assertEqual(Work([let("x = a + b")], [Tell("x")], [let("y = x")], given=["a", "b"]).room, 3)
        self.assertEqual(Work([let("x = a")], [Tell("x")], [let("y = x + a + b")], given=["a", "b"]).room, 4)
        self.assertEqual(full().room, 3)
        self.assertEqual(Work([], body(), given=["a", "b"]).room, 3)


class Flat(unittest.TestCase):
    def test_flat(self):
        for texts, flat in (([], True), (["x = a"], True), (["x = 2 * a - x + 3"], True), (["x = a * a"], False),
                            (["x = 1 + 0 * a * x"], False), (["x = a", "x = a * x"], False)):
            self.assertIs(Work([], [let(text) for text in texts], given=["a", "x"]).is_flat, flat, texts)

    def test_a_tell(self):
        self.assertIs(Work([], [let("x = a"), Tell("a")], given=["a"]).is_flat, False)

    def test_only_the_loop_counts(self):
        self.assertIs(Work([Tell("a"), let("x = a * a")], [let("x = a")], [Tell("a"), let("x = a * a")],
                           given=["a"]).is_flat, True)


class OneError(unittest.TestCase):
    def test_items_that_are_no_lines(self):
        for value in ODD_VALUES + ["tell a", Sum((1, ())), Work([], []), ("a", Sum((1, ())))]:
            check_raises(self, BadWork(value), Work, [value], [])
            check_raises(self, BadWork(value), Work, (ONE, value), [])
            check_raises(self, BadWork(value), Work, [ONE], [TWO, value, None], [])
            check_raises(self, BadWork(value), Work, [], [], [ONE, value])
        check_raises(self, BadWork(1), Work, [ONE, 1], [2], [3])
        check_raises(self, BadWork(2), Work, [ONE], [2], [3])
        check_raises(self, BadWork(3), Work, [ONE], [], [3, 4])

    def test_modulus(self):
        for modulus in (2, 3, 10 ** 18 - 1, 10 ** 18):
            check_same(self, Work([], [], modulus=modulus).modulus, modulus)
        for modulus in [1, 0, -2, 10 ** 18 + 1, 10 ** 59] + ODD_NUMBERS:
            check_raises(self, BadNumber(modulus), Work, [], [], modulus=modulus)

    def test_fixed_without_pairs(self):
        for value in [[1, 2], (1,), (1, 2, 3), (), None, 5, True, "ab", {1: 2, 3: 4}, ONE]:
            check_raises(self, BadWork(value), Work, [], [], fixed={"c": value})
            check_raises(self, BadWork(value), Work, [], [], fixed={"d": 1, "c": value, "b": (1, 1)})

    def test_too_many_lines(self):
        self.assertEqual(len(Work([ONE] * 200, []).ahead), 200)
        self.assertEqual(len(Work([], [ONE] * 24).loop), 24)
        self.assertEqual(len(Work([ONE] * 176, [ONE] * 24, [ONE] * 24).behind), 24)
        check_raises(self, TooMany(200), Work, [ONE] * 201, [])
        check_raises(self, TooMany(24), Work, [], [ONE] * 25)
        check_raises(self, TooMany(24), Work, [], [], [ONE] * 25)
        check_raises(self, TooMany(200), Work, [ONE] * 177, [], [ONE] * 24)
        check_raises(self, TooMany(200), Work, [ONE] * 200, [], [ONE])

    def test_given(self):
        for value in ODD_VALUES:
            check_raises(self, BadName(value), Work, [], [], given=["a", value, "B"])
        check_raises(self, Twice("b"), Work, [], [], given=["a", "b", "b", "a"])

    def test_names_of_fixed(self):
        for name in ("", "A", "abcdefg", "a1", "a b", "\u00e9"):
            check_raises(self, BadName(name), Work, [], [], fixed={name: (1, 1), "a": (1, 1)})
        check_raises(self, BadName("A"), Work, [], [], fixed={"b1": (1, 1), "B": (1, 1), "A": (1, 1), "a": (1, 1)})

    def test_prices(self):
        for price in range(10):
            check_same(self, Work([], [], fixed={"c": (1, price)}).fixed, {"c": (1, price)})
        for price in [10, -1, 10 ** 59] + ODD_NUMBERS:
            check_raises(self, BadPrice(price), Work, [], [], fixed={"d": (1, 11), "c": (1, price), "b": (1, 9)})

    def test_results(self):
        for value in ODD_VALUES:
            check_raises(self, BadName(value), Work, [], [], given=["a", "b"], results=["b", "a", value, "B"])
        check_raises(self, Twice("a"), Work, [], [], given=["a", "b"], results=["b", "a", "a", "b"])

    def test_too_many_names(self):
        six = ["a", "b", "c", "d", "e", "f"]
        check_same(self, Work([], [], given=six).names, tuple(six))
        check_raises(self, TooMany(6), Work, [], [], given=six + ["g"])
        check_raises(self, TooMany(6), Work, [], [ONE], given=six)
        check_raises(self, TooMany(6), Work, [ONE], [], given=six)
        check_raises(self, TooMany(6), Work, [], [], [ONE], given=six)
        check_raises(self, TooMany(6), Work, [], [Tell("x")], given=six)
        check_raises(self, TooMany(6), Work, [], [], given=six, fixed={"x": (1, 1)})
        check_raises(self, TooMany(6), Work, [], [], given=six, results=["x"])

    def test_constants(self):
        for modulus in (2, 97, 10 ** 18):
            for constant in (0, 1, modulus - 1):
                check_same(self, Work([], [], fixed={"c": (constant, 1)}, modulus=modulus).fixed, {"c": (constant, 1)})
            for constant in [modulus, -1, 10 ** 59] + ODD_NUMBERS:
                fixed = {"c": (constant, 1), "b": (0, 1), "d": (-1, 1)}
                check_raises(self, BadInput("c"), Work, [], [], fixed=fixed, modulus=modulus)

    def test_fixed_and_given(self):
        check_raises(self, BadInput("c"), Work, [], [], given=["d", "c"], fixed={"b": (1, 1), "d": (1, 1), "c": (1, 1)})
        check_raises(self, BadInput("b"), Work, [], [], given=["c"], fixed={"b": (-1, 1), "c": (1, 1)})
        check_raises(self, BadInput("b"), Work, [], [], given=["b"], fixed={"b": (1, 1), "c": (-1, 1)})


class Places(unittest.TestCase):
    def test_used_names_that_may_be_nowhere(self):
        check_raises(self, Unmade(("ahead", 0), "x"), Work, [Tell("x")], [])
        check_raises(self, Unmade(("loop", 0), "x"), Work, [], [Tell("x")])
        check_raises(self, Unmade(("behind", 0), "x"), Work, [], [], [Tell("x")])
        check_raises(self, Unmade(("loop", 1), "c"), Work, [], [ONE, let("y = x + c - b")])
        check_raises(self, Unmade(("behind", 2), "b"), Work, [], [], [ONE, TWO, Tell("x", "b", "a")])

    def test_a_line_does_not_make_for_itself(self):
        check_raises(self, Unmade(("loop", 0), "x"), Work, [], [let("x = x + 1")])
        check_raises(self, Unmade(("ahead", 0), "x"), Work, [let("x = 0 * x")], [])

    def test_later_lines_do_not_count(self):
        for part in ("ahead", "loop", "behind"):
            parts = {"ahead": [], "loop": [], "behind": [], part: [Tell("x"), ONE]}
            check_raises(self, Unmade((part, 0), "x"), Work, **parts)

    def test_where_a_name_can_come_from(self):
        Work([Tell("a")], [Tell("a")], [Tell("a")], given=["a"])
        Work([Tell("a")], [Tell("a")], [Tell("a")], fixed={"a": (1, 1)})
        Work([ONE, Tell("x")], [Tell("x")], [Tell("x")])
        Work([], [ONE, Tell("x")], [ONE, Tell("x")])

    def test_the_loop_makes_nothing_for_behind(self):
        check_raises(self, Unmade(("behind", 0), "x"), Work, [], [ONE], [Tell("x")])

    def test_fixed_names_that_are_made(self):
        fixed = {"x": (1, 1), "y": (2, 2)}
        check_raises(self, MadeAgain(("ahead", 0), "x"), Work, [ONE, TWO], [], fixed=fixed)
        check_raises(self, MadeAgain(("loop", 1), "y"), Work, [], [Tell("x"), TWO, ONE], fixed=fixed)
        check_raises(self, MadeAgain(("behind", 0), "x"), Work, [], [], [ONE], fixed=fixed)

    def test_place_by_place(self):
        fixed = {"x": (1, 1)}
        check_raises(self, Unmade(("loop", 0), "a"), Work, [], [let("x = a"), Tell("b")], fixed=fixed)
        check_raises(self, MadeAgain(("loop", 0), "x"), Work, [], [let("x = 1"), Tell("b")], fixed=fixed)
        check_raises(self, MadeAgain(("ahead", 0), "x"), Work, [ONE], [Tell("a")], [Tell("b")], fixed=fixed)
        check_raises(self, Unmade(("ahead", 1), "b"), Work, [let("y = 1"), Tell("b", "a")], [ONE], fixed=fixed)

    def test_results_that_may_be_nowhere(self):
        check_raises(self, Unmade(("behind", 0), "x"), Work, [], [ONE], results=["x"])
        check_raises(self, Unmade(("behind", 1), "b"), Work, [], [], [ONE], results=["x", "c", "b"])
        check_raises(self, Unmade(("behind", 0), "b"), Work, [ONE], [Tell("x")], given=["a"], results=["c", "b", "a"])


class TwoErrors(unittest.TestCase):
    """Each error of Work together with each one behind it in the order of the document."""

    def errors_in_order(self):
        odd = let("u = v")
        return [
            (BadWork(5), {"loop": [5]}),
            (BadNumber(1), {"modulus": 1}),
            (BadWork([1, 1]), {"fixed": {"e": [1, 1]}}),
            (TooMany(200), {"ahead": [ONE] * 201}),
            (TooMany(24), {"behind": [TWO] * 25}),
            (BadName("G"), {"given": ["G"]}),
            (BadName("F"), {"fixed": {"F": (1, 1)}}),
            (BadPrice(10), {"fixed": {"e": (1, 10)}}),
            (BadName("R"), {"results": ["R"]}),
            (TooMany(6), {"loop": [let(f"{name} = 1") for name in ("h", "i", "j", "k", "l", "m", "n")]}),
            (Unmade(("loop", 0), "v"), {"loop": [odd]}),
            (Unmade(("behind", 0), "w"), {"results": ["w"]}),
            (BadInput("e"), {"fixed": {"e": (-1, 1)}}),
        ]

    def test_each_by_itself(self):
        for error, parts in self.errors_in_order():
            check_raises(self, error, Work, **{"ahead": [], "loop": [], **parts})

    def test_two_at_once(self):
        for (error, parts), (_, others) in itertools.combinations(self.errors_in_order(), 2):
            if not parts.keys() & others.keys():
                check_raises(self, error, Work, **{"ahead": [], "loop": [], **parts, **others})

    def test_two_in_one_argument(self):
        many = {name: (1, 1) for name in ("h", "i", "j", "k", "l", "m", "n")}
        check_raises(self, BadWork(7), Work, [7] * 300, [])
        check_raises(self, BadWork((1,)), Work, [], [], fixed={"F": (1,)})
        check_raises(self, BadWork(()), Work, [], [], fixed={"e": (1, 10), "f": ()})
        check_raises(self, BadName("F"), Work, [], [], fixed={"F": (1, 10)})
        check_raises(self, BadName("f1"), Work, [], [], fixed={"e": (-1, 10), "f1": (1, 1)})
        check_raises(self, BadPrice(10), Work, [], [], fixed={**many, "z": (1, 10)})
        check_raises(self, BadPrice(None), Work, [], [], fixed={"b": (-1, 1), "c": (-1, None)})
        check_raises(self, TooMany(6), Work, [], [], fixed={**many, "a": (-1, 1)})
        check_raises(self, TooMany(200), Work, [ONE] * 201, [TWO] * 25, [TWO] * 25)
        check_raises(self, TooMany(24), Work, [ONE] * 200, [], [TWO] * 25)
        check_raises(self, BadName("A"), Work, [], [], given=["a", "a", "A"])
        check_raises(self, Twice("a"), Work, [], [], given=["a", "a", "b", "c", "d", "e", "f", "g"])
        check_raises(self, BadName("A"), Work, [], [], results=["b", "b", "A"])
        check_raises(self, Twice("b"), Work, [], [], results=["b", "b", "c", "d", "e", "f", "g", "h"])

    def test_given_ahead_of_fixed_ahead_of_results(self):
        check_raises(self, Twice("a"), Work, [], [], given=["a", "a"], fixed={"F": (1, 1)}, results=["R"])
        check_raises(self, BadName("F"), Work, [], [], given=["a"], fixed={"F": (1, 1)}, results=["R"])
        check_raises(self, BadPrice(-1), Work, [], [], fixed={"a": (1, -1)}, results=["R", "R"])
        check_raises(self, Twice("a"), Work, [], [Tell("x")], given=["a"], results=["a", "a"])

    def test_line_by_line_ahead_of_results(self):
        check_raises(self, Unmade(("behind", 0), "z"), Work, [], [], [Tell("z")], results=["a"])
        check_raises(self, MadeAgain(("behind", 0), "x"), Work, [], [], [ONE], fixed={"x": (-1, 1)}, results=["a"])


class Straight(unittest.TestCase):
    def test_lines(self):
        work = full()
        for n in range(5):
            wanted = work.ahead + work.loop * n + work.behind
            check_same(self, work.straight(n), wanted)
            check_same(self, work.straight(n=n), wanted)

    def test_bounds(self):
        work = Work([ONE] * 3, [ONE, TWO], [TWO])
        self.assertEqual(len(work.straight(98)), 200)
        for n in (99, 100, 10 ** 59, 10 ** 70):
            check_raises(self, TooMany(200), work.straight, n)
        self.assertEqual(len(Work([ONE] * 200, [ONE]).straight(0)), 200)
        check_raises(self, TooMany(200), Work([ONE] * 200, [ONE]).straight, 1)

    def test_loop_without_lines(self):
        for n in (0, 1, 10 ** 59):
            check_same(self, Work([ONE], [], [TWO]).straight(n), (ONE, TWO))

    def test_numbers_that_are_none(self):
        for n in [-1, -10 ** 59] + ODD_NUMBERS:
            check_raises(self, BadNumber(n), full().straight, n)


class Powers(unittest.TestCase):
    def test_loop_is_written_again(self):
        for j in (1, 2, 3, 12):
            work = full() ** j
            check_same(self, work.loop, full().loop * j)
            self.assertTrue(work == full(loop=list(full().loop) * j))
        self.assertTrue(full() ** 1 == full())

    def test_bounds(self):
        self.assertEqual(len((Work([], [ONE]) ** 24).loop), 24)
        for j in (25, 26, 10 ** 59):
            check_raises(self, TooMany(24), lambda n=j: Work([], [ONE]) ** n)
        check_raises(self, TooMany(24), lambda: full() ** 13)

    def test_loop_without_lines(self):
        work = Work([ONE], [], [TWO], results=["x"])
        for j in (1, 2, 10 ** 59):
            self.assertTrue(work ** j == work)

    def test_numbers_that_are_none(self):
        for j in [0, -1, -10 ** 59, full()] + ODD_NUMBERS:
            check_raises(self, BadNumber(j), lambda n=j: full() ** n)

    def test_straight_form(self):
        for j, n in itertools.product((1, 2, 3), range(4)):
            check_same(self, (full() ** j).straight(n), full().straight(j * n))


class Unrolled(unittest.TestCase):
    def test_rounds_are_put_ahead(self):
        for j in range(5):
            for work in (full().unrolled(j), full().unrolled(j=j)):
                check_same(self, work.ahead, full().ahead + full().loop * j)
                self.assertTrue(work == full(ahead=list(full().ahead + full().loop * j)))

    def test_straight_form(self):
        for j, n in itertools.product(range(4), repeat=2):
            check_same(self, full().unrolled(j).straight(n), full().straight(j + n))

    def test_bounds(self):
        work = Work([ONE] * 3, [ONE, TWO], [TWO])
        self.assertEqual(len(work.unrolled(98).ahead), 199)
        for j in (99, 10 ** 59):
            check_raises(self, TooMany(200), work.unrolled, j)

    def test_loop_without_lines(self):
        work = Work([ONE], [], [TWO], results=["x"])
        for j in (0, 1, 10 ** 59):
            self.assertTrue(work.unrolled(j) == work)

    def test_numbers_that_are_none(self):
        for j in [-1, -10 ** 59] + ODD_NUMBERS:
            check_raises(self, BadNumber(j), full().unrolled, j)


class Renamed(unittest.TestCase):
    def test_all_parts(self):
        new = {"a": "b", "b": "a", "c": "loop", "d": "x", "x": "z", "y": "abcdef"}
        wanted = Work([let("z = 1"), Tell("loop", "b")], [let("z = z * b + loop"), Tell("z")],
                      [let("abcdef = z - loop")], given=["a", "b"], fixed={"x": (0, 9), "loop": (96, 0)},
                      results=["abcdef", "b", "x"], modulus=97)
        for work in (full().renamed(new), full().renamed(names=new)):
            self.assertTrue(work == wanted)
            check_same(self, work.names, ("a", "abcdef", "b", "loop", "x", "z"))
            check_same(self, work.fixed, {"loop": (96, 0), "x": (0, 9)})

    def test_names_that_are_lacking_stay(self):
        self.assertTrue(full().renamed({}) == full())
        self.assertTrue(full().renamed({"m": "a", "n": "a"}) == full())
        check_same(self, full().renamed({"a": "z"}).names, ("b", "c", "d", "x", "y", "z"))

    def test_there_and_back(self):
        new = {"a": "p", "b": "q", "c": "r", "d": "a", "x": "b", "y": "c"}
        self.assertTrue(full().renamed(new).renamed({value: key for key, value in new.items()}) == full())

    def test_values_that_are_no_names(self):
        for value in ODD_VALUES:
            check_raises(self, BadName(value), full().renamed, {"x": 5, "b": value, "a": "z"})
            check_raises(self, BadName(value), full().renamed, {"m": value, "n": "B"})

    def test_names_that_two_would_have(self):
        check_raises(self, Twice("b"), full().renamed, {"a": "b"})
        check_raises(self, Twice("m"), full().renamed, {"a": "z", "b": "z", "c": "m", "d": "m"})
        check_raises(self, Twice("a"), full().renamed, {"x": "b", "y": "a"})
        check_raises(self, Twice("z"), full().renamed, {"a": "z", "b": "z", "x": "z"})

    def test_order_of_errors(self):
        check_raises(self, BadName("Z"), full().renamed, {"a": "b", "y": "Z"})
        check_raises(self, BadName(None), full().renamed, {"a": "b", "m": None})


class Equality(unittest.TestCase):
    def test_equal(self):
        self.assertIs(full() == full(), True)
        self.assertIs(full() != full(), False)
        self.assertIs(full() == full(given=("a", "b"), results=("d", "y", "a")), True)
        self.assertIs(full() == full(fixed={"c": (96, 0), "d": (0, 9)}), True)
        self.assertIs(Work([], [], fixed={}) == Work((), ()), True)

    def test_each_difference(self):
        others = [full(ahead=[let("x = 2"), Tell("c", "a")]), full(loop=[let("x = x * a + c")]), full(behind=[TWO]),
                  full(given=["a"]), full(given=["a", "e"]), full(fixed={"d": (1, 9), "c": (96, 0)}),
                  full(fixed={"d": (0, 9), "c": (96, 1)}), full(results=["y", "a"]), full(modulus=98)]
        for one, other in itertools.combinations([full()] + others, 2):
            self.assertIs(one == other, False)
            self.assertIs(one != other, True)

    def test_other_kinds(self):
        for value in ODD_VALUES + [str(full()), Tell("a"), Sum((1, ())), ONE]:
            self.assertIs(full() == value, False)
            self.assertIs(value == full(), False)
            self.assertIs(full() != value, True)
            self.assertIs(value != full(), True)


class LaterChanges(unittest.TestCase):
    def test_what_was_handed_in(self):
        ahead, loop, behind = [ONE], [TWO], [ONE]
        given, results, fixed = ["a"], ["x"], {"c": (1, 1)}
        work = Work(ahead, loop, behind, given=given, fixed=fixed, results=results)
        wanted = Work([ONE], [TWO], [ONE], given=["a"], fixed={"c": (1, 1)}, results=["x"])
        for lines in (ahead, loop, behind):
            lines.append(Tell("a"))
            lines[0] = 5
        given.append("b")
        results[0] = "R"
        fixed["c"] = None
        fixed["d"] = (1, 1)
        self.assertTrue(work == wanted)
        self.assertEqual(str(work), str(wanted))
        self.assertEqual(work.names, wanted.names)

    def test_what_was_handed_back(self):
        work = full()
        for fixed in (work.fixed, work.unrolled(1).fixed):
            fixed["c"] = (5, 5)
            del fixed["d"]
        self.assertIsNot(work.fixed, work.fixed)
        self.assertTrue(work == full())
        check_same(self, work.fixed, {"c": (96, 0), "d": (0, 9)})

    def test_new_names_that_are_changed(self):
        new = {"a": "z"}
        work = full().renamed(new)
        new["a"] = "b"
        self.assertTrue(work == full().renamed({"a": "z"}))

    def test_arguments_are_not_changed(self):
        values = [[ONE], [TWO], [ONE], ["b", "a"], {"d": (1, 1), "c": (1, 1)}, ["y", "x"], {"y": "z"}]
        ahead, loop, behind, given, fixed, results, new = values
        work = Work(ahead, loop, behind, given=given, fixed=fixed, results=["x"])
        work.renamed(new), work.unrolled(2), work ** 2, work.straight(2), str(work), work.names
        check_same(self, values, [[ONE], [TWO], [ONE], ["b", "a"], {"d": (1, 1), "c": (1, 1)}, ["y", "x"], {"y": "z"}])

    def test_errors_change_nothing(self):
        work = full()
        for call in (lambda: work ** 0, lambda: work.straight(-1), lambda: work.unrolled(10 ** 9),
                     lambda: work.renamed({"a": "b"}), lambda: work.renamed({"a": 5})):
            with self.assertRaises(ValueError):
                call()
        self.assertTrue(work == full())


class Interface(unittest.TestCase):
    def test_names_stand_in_the_class(self):
        self.assertEqual(Work.__module__, "leastcode.works")
        for name in ("ahead", "loop", "behind", "given", "fixed", "results", "modulus", "names", "room", "is_flat"):
            self.assertIsInstance(vars(Work)[name], property)
        self.assertIsInstance(vars(Work)["read"], classmethod)
        for name in ("straight", "unrolled", "renamed", "__pow__", "__eq__", "__str__"):
            self.assertTrue(callable(vars(Work)[name]))


if __name__ == "__main__":
    unittest.main()
