import random
import unittest

from leastcode.errors import BadPlace
from leastcode.needed import needed
from leastcode.works import Tell, Work
from leastcode.worktexts import read_work
from helping import ODD_VALUES, check_raises, check_same
from plain import draw_work, later_lines, needed_of


def work_of(rows):
    return read_work("\n".join(["modulus 97", *rows.split("; ")]))


def places(work):
    """All places of a work."""
    parts = (("ahead", work.ahead), ("loop", work.loop), ("behind", work.behind))
    return [(part, index) for part, lines in parts for index in range(len(lines) + 1)]


FULL = work_of("given a b; fixed k 5 2; results a r; r = a + 1; tell k; loop; x = a; y = x + b; tell y; a = y; end; "
               "tell r; r = k")


class Places(unittest.TestCase):
    def test_each_place(self):
        wanted = {
            ("ahead", 0): ("a", "b", "k"), ("ahead", 1): ("a", "b", "k", "r"), ("ahead", 2): ("a", "b", "k", "r"),
            ("loop", 0): ("a", "b", "k", "r"), ("loop", 1): ("b", "k", "r", "x"), ("loop", 2): ("b", "k", "r", "y"),
            ("loop", 3): ("b", "k", "r", "y"), ("loop", 4): ("a", "b", "k", "r"),
            ("behind", 0): ("a", "k", "r"), ("behind", 1): ("a", "k"), ("behind", 2): ("a", "r"),
        }
        for place, names in wanted.items():
            check_same(self, needed(FULL, place), names)
            check_same(self, needed(work=FULL, place=place, first=True, further=True), names)

    def test_without_a_first_round(self):
        for index, names in ((0, ("a", "k")), (1, ("a", "k", "r")), (2, ("a", "k", "r"))):
            check_same(self, needed(FULL, ("ahead", index), first=False), names)
            check_same(self, needed(FULL, ("ahead", index), first=False, further=False), names)

    def test_without_a_further_round(self):
        for index, names in ((0, ("a", "b", "k", "r")), (1, ("b", "k", "r", "x")), (2, ("k", "r", "y")),
                             (3, ("k", "r", "y")), (4, ("a", "k", "r"))):
            check_same(self, needed(FULL, ("loop", index), further=False), names)
            check_same(self, needed(FULL, ("loop", index), first=False, further=False), names)

    def test_what_does_not_matter(self):
        for place in places(FULL):
            for first in (True, False):
                for further in (True, False):
                    wanted = needed(FULL, place)
                    if place[0] == "ahead":
                        wanted = needed(FULL, place, first=first)
                    if place[0] == "loop":
                        wanted = needed(FULL, place, further=further)
                    check_same(self, needed(FULL, place, first=first, further=further), wanted)

    def test_only_by_name(self):
        with self.assertRaises(TypeError):
            needed(FULL, ("loop", 0), True)

    def test_lines_that_use_what_they_make(self):
        work = work_of("given x; loop; x = x; end")
        check_same(self, needed(work, ("loop", 0)), ("x",))
        check_same(self, needed(work, ("loop", 1)), ("x",))
        check_same(self, needed(work, ("loop", 1), further=False), ())
        check_same(self, needed(work, ("loop", 0), further=False), ("x",))
        work = work_of("given x; loop; x = 0 * x; x = 1; end")
        check_same(self, needed(work, ("loop", 1)), ())
        check_same(self, needed(work, ("ahead", 0)), ("x",))
        check_same(self, needed(work, ("ahead", 0), first=False), ())

    def test_results(self):
        made_behind = work_of("given r; results r; tell r; loop; end; r = 1")
        check_same(self, [needed(made_behind, ("ahead", 0)), needed(made_behind, ("ahead", 1)),
                          needed(made_behind, ("behind", 0)), needed(made_behind, ("behind", 1))],
                   [("r",), (), (), ("r",)])
        made_ahead = work_of("results r; r = 1; r = 2; loop; end")
        check_same(self, [needed(made_ahead, ("ahead", index)) for index in range(3)], [(), (), ("r",)])
        made_in_the_loop = work_of("given r; results r; loop; r = 5; end")
        check_same(self, needed(made_in_the_loop, ("ahead", 0)), ())
        check_same(self, needed(made_in_the_loop, ("ahead", 0), first=False), ("r",))
        check_same(self, needed(made_in_the_loop, ("loop", 1)), ())
        check_same(self, needed(made_in_the_loop, ("loop", 1), further=False), ("r",))
        given = work_of("given q r; fixed k 1 1; results k r; loop; tell q; end")
        check_same(self, needed(given, ("ahead", 0)), ("k", "q", "r"))
        check_same(self, needed(given, ("behind", 0)), ("k", "r"))

    def test_nothing_is_needed(self):
        for place in (("ahead", 0), ("loop", 0), ("behind", 0)):
            check_same(self, needed(Work([], []), place), ())
            check_same(self, needed(Work([], [], given=["a"]), place, first=False, further=False), ())

    def test_drawn_works(self):
        for seed in range(150):
            work = draw_work(random.Random(seed), "abcde", 5)
            for place in places(work):
                for first in (True, False):
                    for further in (True, False):
                        wanted = needed_of(later_lines(work, place, first, further), work.results)
                        check_same(self, needed(work, place, first=first, further=further), wanted)


class Errors(unittest.TestCase):
    def test_values_that_are_no_places(self):
        values = [("ahead", 3), ("loop", 5), ("behind", 3), ("loop", 10 ** 59), ("ahead", -1), ("loop", -1), ("behind", -3),
                  ("loop", True), ("loop", False), ("loop", None), ("loop", "0"), ("loop", (0,)), ("loop", [0]),
                  ("ahea", 0), ("Loop", 0), ("", 0), (None, 0), (0, 0), (0, "loop"), (True, 0), (["loop"], 0),
                  ({}, 0), (("loop",), 0), (Tell("a"), 0), ("loop", Tell("a")), ["loop", 0], ("loop", 0, 0), ("loop",),
                  (("loop", 0),), {"loop": 0}, "loop", "lo", 0, FULL, *ODD_VALUES]
        for value in values:
            check_raises(self, BadPlace(value), needed, FULL, value)
            check_raises(self, BadPlace(value), needed, FULL, place=value, first=False, further=False)

    def test_parts_without_lines(self):
        for part in ("ahead", "loop", "behind"):
            check_raises(self, BadPlace((part, 1)), needed, Work([], []), (part, 1))

    def test_the_name_stands_in_the_file(self):
        self.assertEqual(needed.__module__, "leastcode.needed")


if __name__ == "__main__":
    unittest.main()
