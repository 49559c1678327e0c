import itertools
import random
import unittest
from math import comb

from leastcode.errors import BadSlots, NoRoom, TooMany
from leastcode.needed import needed
from leastcode.prices import Prices
from leastcode.tasks import Task
from leastcode.works import Tell, Work
from helping import ODD_VALUES, caught, check_raises, check_same
from jobs import work_of
from plain import draw_work

PAIRS = work_of("given a b; results a; loop; tell a; c = a + b; a = b; b = c; end")
NO_SLOTS = [0, -1, 5, 6, 10 ** 59, True, False, None, "3", "", (), [3], {}, PAIRS, *ODD_VALUES]


def many_standings(names, fixed, slots):
    """How many sound standings there are where these names are needed."""
    bound = len([name for name in names if name in fixed])
    free = len(names) - bound
    whole = 0
    for i, j in itertools.product(range(free + 1), range(bound + 1)):
        if i + j <= slots:
            # A free name in a slot may be stored or not, another one is stored; a fixed one may always be either.
            whole += comb(free, i) * 2 ** i * comb(bound, j) * 2 ** bound
    return whole


def all_needed(work):
    """The needed names at all places, with and without rounds to come."""
    parts = (("ahead", work.ahead), ("loop", work.loop), ("behind", work.behind))
    return {needed(work, (part, index), first=more, further=more)
            for part, lines in parts for index in range(len(lines) + 1) for more in (True, False)}


class Parts(unittest.TestCase):
    def test_properties(self):
        for slots in (3, 4):
            prices = Prices(2, 3, {"a": 5})
            for task in (Task(PAIRS, slots, prices), Task(prices=prices, slots=slots, work=PAIRS)):
                self.assertTrue(task.work == PAIRS)
                check_same(self, task.slots, slots)
                self.assertTrue(task.prices == prices)

    def test_prices_left_out(self):
        for task in (Task(PAIRS, 3), Task(PAIRS, 3, None)):
            self.assertTrue(task.prices == Prices(1, 1))
            check_same(self, task.prices.loads, {})

    def test_one_to_four_slots(self):
        for slots in (1, 2, 3, 4):
            check_same(self, Task(Work([], []), slots).slots, slots)

    def test_names_stand_in_the_class(self):
        self.assertEqual(Task.__module__, "leastcode.tasks")
        for name in ("work", "slots", "prices"):
            self.assertIsInstance(vars(Task)[name], property)
            with self.assertRaises(AttributeError):
                setattr(Task(PAIRS, 3), name, 3)
        self.assertTrue(callable(vars(Task)["__eq__"]))


class Slots(unittest.TestCase):
    def test_values_that_are_none(self):
        for value in NO_SLOTS:
            check_raises(self, BadSlots(value), Task, PAIRS, value)
            check_raises(self, BadSlots(value), Task, Work([], []), value, Prices(1, 1))

    def test_no_room(self):
        check_raises(self, NoRoom(("loop", 1)), Task, PAIRS, 2)
        check_raises(self, NoRoom(("loop", 1)), Task, PAIRS, 1)
        work = work_of("given a b c; x = 1; tell a b; loop; tell a; x = a + b; tell a b c; end; x = a + b + c; tell x")
        check_raises(self, NoRoom(("ahead", 1)), Task, work, 1)
        check_raises(self, NoRoom(("loop", 1)), Task, work, 2)
        check_raises(self, NoRoom(("behind", 0)), Task, work, 3)
        check_same(self, Task(work, 4).slots, 4)

    def test_the_first_line_without_room(self):
        for part in ("ahead", "loop", "behind"):
            rows = {"ahead": "tell a", "loop": "tell b", "behind": "tell a", part: "tell a; tell a b; tell a b c"}
            work = work_of(f"given a b c; {rows['ahead']}; loop; {rows['loop']}; end; {rows['behind']}")
            check_raises(self, NoRoom((part, 1)), Task, work, 1)
            check_raises(self, NoRoom((part, 2)), Task, work, 2)

    def test_a_line_that_uses_what_it_makes(self):
        work = work_of("given a b; loop; a = a + b; a = a; a = 5; end")
        check_same(self, Task(work, 2).slots, 2)
        check_raises(self, NoRoom(("loop", 0)), Task, work, 1)


class Standings(unittest.TestCase):
    def check_only_there(self, rows, place, **more):
        """There are too many standings at this place, and at no other one."""
        work = work_of(rows)
        self.assertEqual(len(needed(work, place, **more)), 6)
        self.assertEqual([names for names in all_needed(work) if many_standings(names, work.fixed, 4) > 600],
                         [tuple("abcdek")])
        for part, index in itertools.product(("ahead", "loop", "behind"), range(3)):
            found = caught(needed, work, (part, index), **more)
            if found is None and (part, index) != place:
                self.assertLess(len(needed(work, (part, index), **more)), 6)
        check_raises(self, TooMany(600), Task, work, 4)
        check_same(self, Task(work, 3).slots, 3)

    def test_just_above(self):
        self.assertEqual(many_standings("abcdek", "k", 4), 684)
        work = work_of("given a b c d e; fixed k 1 1; results a b c d e k; loop; end")
        check_raises(self, TooMany(600), Task, work, 4)
        check_same(self, Task(work, 3).slots, 3)

    def test_each_kind_of_place(self):
        given = "given a b c d e; fixed k 1 1; "
        self.check_only_there(given + "tell a; loop; b = 1; end; tell b c d; tell e k", ("ahead", 0), first=False)
        self.check_only_there(given + "tell a; loop; tell b c d; tell e k; end", ("ahead", 0), first=True)
        self.check_only_there(given + "loop; b = c; tell a; end; tell b c d; tell e k", ("loop", 1), further=False)
        self.check_only_there(given + "loop; a = 1; end; tell a b c; tell d e k", ("behind", 0))

    def test_at_the_head_of_a_round(self):
        work = work_of("given a b c d e; fixed k 1 1; loop; tell a b c; tell d e k; end")
        check_raises(self, TooMany(600), Task, work, 4)

    def test_as_many_as_there_may_be(self):
        counts = {many_standings("a" * free + "k" * bound, "k", slots)
                  for free in range(7) for bound in range(7 - free) for slots in (1, 2, 3, 4)}
        self.assertEqual(max(count for count in counts if count <= 600), 592)
        work = work_of("given a; fixed k 1 1; fixed l 1 1; fixed m 1 1; fixed n 1 1; results a k l m n; loop; end")
        self.assertEqual(many_standings(("a", *"klmn"), work.fixed, 3), 592)
        check_same(self, Task(work, 3).slots, 3)
        check_raises(self, TooMany(600), Task, work, 4)

    def test_without_fixed_names_there_are_never_too_many(self):
        work = work_of("given a b c d e f; results a b c d e f; loop; end")
        self.assertEqual(many_standings("abcdef", "", 4), 473)
        check_same(self, Task(work, 4).slots, 4)

    def test_drawn_works(self):
        found = []
        for seed in range(300):
            work = draw_work(random.Random(seed), "abcdef", 4)
            for slots in range(work.room, 5):
                wanted = any(many_standings(names, work.fixed, slots) > 600 for names in all_needed(work))
                error = caught(Task, work, slots)
                self.assertEqual(error is not None, wanted, str(work))
                found.append(wanted)
        self.assertTrue(3 < sum(found) < len(found) - 3)


class TwoErrors(unittest.TestCase):
    def test_in_the_order_of_the_document(self):
        crowded = "given a b c d e; fixed k 1 1; results a b c d e k; loop; {}; end"
        work = work_of(crowded.format("tell a; a = b + c + d"))
        check_raises(self, TooMany(600), Task, work, 4)
        check_raises(self, NoRoom(("loop", 1)), Task, work, 3)
        check_raises(self, BadSlots(0), Task, work, 0)
        check_raises(self, BadSlots(True), Task, work, True)
        check_raises(self, BadSlots(5), Task, work, 5)
        fixed = "; ".join(f"fixed {name} 1 1" for name in "abcdef")
        work = work_of(f"{fixed}; results a b c d e f; loop; tell a b c; end")
        check_raises(self, NoRoom(("loop", 0)), Task, work, 2)
        check_raises(self, TooMany(600), Task, work, 3)
        check_raises(self, BadSlots(None), Task, work, None)


class Equality(unittest.TestCase):
    def test_equal(self):
        for one, other in ((Task(PAIRS, 3), Task(PAIRS ** 1, 3)), (Task(PAIRS, 3), Task(PAIRS, 3, Prices(1, 1))),
                           (Task(PAIRS, 4, Prices(1, 2)), Task(PAIRS, 4, Prices(1, 2, {"a": 1})))):
            self.assertIs(one == other, True)
            self.assertIs(one != other, False)

    def test_unlike(self):
        tasks = [Task(PAIRS, 3), Task(PAIRS, 4), Task(PAIRS ** 2, 3), Task(PAIRS, 3, Prices(1, 2)),
                 Task(PAIRS, 3, Prices(1, 1, {"a": 2})), Task(PAIRS.renamed({"a": "z"}), 3)]
        for one, other in itertools.permutations(tasks, 2):
            self.assertIs(one == other, False)
            self.assertIs(one != other, True)

    def test_other_kinds(self):
        for value in ODD_VALUES + [PAIRS, Prices(1, 1), 3, (PAIRS, 3, Prices(1, 1)), Tell("a")]:
            self.assertIs(Task(PAIRS, 3) == value, False)
            self.assertIs(value == Task(PAIRS, 3), False)
            self.assertIs(Task(PAIRS, 3) != value, True)
            self.assertIs(value != Task(PAIRS, 3), True)


class LaterChanges(unittest.TestCase):
    def test_arguments_that_are_changed(self):
        lines, given, results, fixed, loads = [Tell("a", "k")], ["a"], ["a"], {"k": (1, 1)}, {"a": 5}
        task = Task(Work([], lines, given=given, results=results, fixed=fixed), 2, Prices(1, 2, loads))
        wanted = Task(Work([], [Tell("a", "k")], given=["a"], results=["a"], fixed={"k": (1, 1)}), 2,
                      Prices(1, 2, {"a": 5}))
        lines.append(Tell("b"))
        given.append("b")
        results.clear()
        fixed["k"] = None
        loads["a"] = 10
        task.work.fixed["k"] = 5
        task.prices.loads["a"] = None
        self.assertTrue(task == wanted)


if __name__ == "__main__":
    unittest.main()
