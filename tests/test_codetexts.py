import copy
import random
import unittest

from leastcode.codes import Code
from leastcode.codetexts import read_code, show_code
from leastcode.coding import code_for
from leastcode.errors import BadText, LeastError
from leastcode.tasks import Task
from helping import ODD_VALUES, caught, check_raises, check_same
from handmade import parts_of, relabelled, small_code, small_parts, with_later_first, with_twice_the_period
from jobs import FULL, TURNS, job, work_of
from plain import draw_task

SMALL_TEXT = """registers 2
modulus 1000
names a k
constant 1 5
inputs a
results a
stages 2 1
rise 0
holding - - / a
holding a k / -
begin -
begin 0
begin 0
block 0 1 6 -
load 0 0
set 1 1
let 0 r0 + r1
tell 0
store 0 0
block 0 2 6 1
load 0 0
set 1 1
let 0 r0 + r1
tell 0
block 1 1 1 -
let 0 r0 + r1
tell 0
store 0 0
block 1 2 1 1
let 0 r0 + r1
tell 0"""

BARE_TEXT = """registers 1
modulus 2
names -
inputs -
results -
stages 2 1
rise -3
holding - / -
begin -
begin 0
begin 0
block 0 1 -5 -
block 0 2 0 0"""


def bare_code():
    return Code(1, (), 2, {}, (), (), 2, 1, (((), None), ((), 0), ((), 0)), {(0, 2): ((), 0), (0, 1): ((), None)},
                (((None,), ()),), {(0, 1): -5, (0, 2): 0}, -3)


def rich_code():
    """A code with sums of all kinds, and with four registers in one sum."""
    terms = [((1, (0,)),), ((-1, (0,)), (-1, (1,)), (1, ()), (-1, ())), ((0, ()),), ((0, (1, 2, 3)), (-2, (3, 3, 3)), (2, (2,))),
             ((999999, (0,)), (-999999, (1,)), (999999, (2,)), (-999999, (3,))), ((-7, ()),), ((1, ()), (1, (3,))),
             ((1, (0,)), (1, (1,)), (1, (2,)), (1, (3,))), ((-1, (0, 1)), (0, ()), (0, (0,)), (1, (1, 1)))]
    lets = tuple(("let", at % 4, one) for at, one in enumerate(terms))
    blocks = {(0, 1): (lets, None), (0, 2): ((("tell", (3, 2, 1)), ("tell", (0,)), ("set", 3, 5), ("store", 5, 3)), 0)}
    return Code(4, tuple("abcdef"), 10 ** 18, {5: 10 ** 18 - 1, 0: 0}, ("b", "c"), ("a", "e", "f"), 2, 1,
                (((), None), ((("load", 2, 4),), 0), ((), 0)), blocks, ((("a", None, "a", "f"), ("a", "b", "f")),),
                {(0, 1): 10 ** 40, (0, 2): -10 ** 59}, 10 ** 30)


def long_code():
    """A code with numbers that Python itself neither writes nor reads."""
    costs = {(0, 1): 10 ** 5000, (0, 2): -10 ** 4999 - 7}
    return Code(1, (), 2, {}, (), (), 2, 1, (((), None), ((), 0), ((), 0)), {(0, 2): ((), 0), (0, 1): ((), None)},
                (((None,), ()),), costs, 3 * 10 ** 6000 + 10 ** 64)


def all_codes():
    codes = [small_code(), bare_code(), rich_code(), long_code()]
    codes += [code_for(task) for task in [task for task, *_ in TURNS] + FULL]
    codes += [with_twice_the_period(code) for code in codes[4:7]] + [with_later_first(codes[4])]
    return codes + [relabelled(codes[4], {0: 1, 1: 0})]


class Shown(unittest.TestCase):
    def test_texts_by_hand(self):
        self.assertEqual(show_code(small_code()), SMALL_TEXT)
        self.assertEqual(show_code(bare_code()), BARE_TEXT)
        self.assertEqual(show_code(code=bare_code()), BARE_TEXT)

    def test_sums(self):
        rows = show_code(rich_code()).split("\n")
        self.assertEqual([row for row in rows if row.startswith("let")], [
            "let 0 r0", "let 1 -1 * r0 - r1 + 1 - 1", "let 2 0", "let 3 0 * r1 * r2 * r3 - 2 * r3 * r3 * r3 + 2 * r2",
            "let 0 999999 * r0 - 999999 * r1 + 999999 * r2 - 999999 * r3", "let 1 -7", "let 2 1 + r3",
            "let 3 r0 + r1 + r2 + r3", "let 0 -1 * r0 * r1 + 0 + 0 * r0 + r1 * r1"])
        self.assertEqual(rows[:9], ["registers 4", f"modulus {10 ** 18}", "names a b c d e f", "constant 0 0",
                                    f"constant 5 {10 ** 18 - 1}", "inputs b c", "results a e f", "stages 2 1", f"rise {10 ** 30}"])
        self.assertEqual(rows[9:15], ["holding a - a f / a b f", "begin -", "begin 0", "load 2 4", "begin 0", f"block 0 1 {10 ** 40} -"])
        self.assertEqual(rows[-5:], [f"block 0 2 -{10 ** 59} 0", "tell 3 2 1", "tell 0", "set 3 5", "store 5 3"])

    def test_labels_and_stages_as_numbers(self):
        # 10 comes behind 9.
        parts = small_parts()
        holdings = parts["holdings"] + (parts["holdings"][0],) * 9
        more = {(label, 1): ((), None) for label in (10, 9, 2)}
        code = small_code(holdings=holdings, blocks={**more, **parts["blocks"]}, costs={**parts["costs"], **{key: 0 for key in more}})
        rows = [row for row in show_code(code).split("\n") if row.startswith("block")]
        self.assertEqual([row.split(" ")[1:3] for row in rows],
                         [[str(label), str(stage)] for label, stage in ((0, 1), (0, 2), (1, 1), (1, 2), (2, 1), (9, 1), (10, 1))])
        self.assertEqual(read_code(show_code(code)), code)


class Read(unittest.TestCase):
    def test_what_is_shown_is_read_back(self):
        for code in all_codes():
            again = read_code(show_code(code))
            self.assertEqual(again, code)
            check_same(self, parts_of(again), parts_of(code))
        self.assertEqual(read_code(text=SMALL_TEXT), small_code())

    def test_codes_of_drawn_tasks(self):
        for seed in range(80):
            code = code_for(draw_task(random.Random(seed), "abcd", 4))
            check_same(self, parts_of(read_code(show_code(code))), parts_of(code))

    def test_long_texts(self):
        task = Task(work_of("given a b c d e; loop; " + "; ".join(["tell a b c", "tell d e", "tell c e"] * 8) + "; end"), 4)
        text = show_code(code_for(task))
        self.assertEqual(show_code(read_code(text)), text)


class Refused(unittest.TestCase):
    def refused(self, text):
        check_raises(self, BadText(0, 0), read_code, text)

    def check(self, text):
        """A text is refused, or it is that of the code that is read."""
        error = caught(read_code, text)
        if error is None:
            self.assertEqual(show_code(read_code(text)), text)
            return True
        check_same(self, (type(error), vars(error)), (BadText, {"line": 0, "word": 0}))
        return False

    def test_values_that_are_none(self):
        for value in [*ODD_VALUES, SMALL_TEXT.split("\n"), small_code(), 0, 10 ** 59, "\n", "registers", "registers 2", "x" * 2000,
                      " ", "registers 2\n" * 150, [SMALL_TEXT], (SMALL_TEXT,), {"text": SMALL_TEXT}]:
            self.refused(value)

    def test_a_line_less_twice_or_exchanged(self):
        for text in (SMALL_TEXT, BARE_TEXT):
            rows = text.split("\n")
            for at in range(len(rows)):
                self.check("\n".join(rows[:at] + rows[at + 1:]))
                self.check("\n".join(rows[:at] + rows[at:at + 1] + rows[at:]))
                self.refused("\n".join(rows[:at] + [""] + rows[at:]))
                self.refused("\n".join(rows[:at] + ["x"] + rows[at + 1:]))
                for other in range(at):
                    swapped = list(rows)
                    swapped[at], swapped[other] = rows[other], rows[at]
                    self.check("\n".join(swapped))
        rows = SMALL_TEXT.split("\n")
        for at in range(14):
            self.refused("\n".join(rows[:at] + rows[at + 1:]))
        for at in (*range(8), *range(10, 14)):
            self.refused("\n".join(rows[:at] + rows[at:at + 1] + rows[at:]))

    def test_other_orders_of_blocks_and_constants(self):
        rows = SMALL_TEXT.split("\n")
        blocks = [rows[13:19], rows[19:24], rows[24:28], rows[28:31]]

        def text_of(blocks):
            return "\n".join(rows[:13] + [row for block in blocks for row in block])
        self.assertTrue(self.check(text_of(blocks)))
        for at in range(3):
            self.refused(text_of(blocks[:at] + [blocks[at + 1], blocks[at]] + blocks[at + 2:]))
            self.refused(text_of(blocks + blocks[at:at + 1]))
        rows = show_code(rich_code()).split("\n")
        self.refused("\n".join(rows[:3] + [rows[4], rows[3]] + rows[5:]))
        self.refused("\n".join(rows[:4] + rows[3:]))

    def test_a_word_otherwise(self):
        words = ["", "-", "0", "1", "2", "9", "00", "01", "+1", "-1", "-0", "a", "k", "z", "A", "r0", "r1", "r9", "r", "+", "*", "/", "x",
                 "load", "begin", "block", "None", "1.", "1_0", "\u0661", "1\n", "\t"]
        taken = 0
        for text in (SMALL_TEXT, BARE_TEXT):
            rows = [row.split(" ") for row in text.split("\n")]
            for at, row in enumerate(rows):
                for spot in range(len(row)):
                    for word in words:
                        other = rows[:at] + [row[:spot] + [word] + row[spot + 1:]] + rows[at + 1:]
                        taken += self.check("\n".join(" ".join(one) for one in other))
                    for new in (row[:spot] + row[spot + 1:], row[:spot] + row[spot:spot + 1] + row[spot:],
                                row[:spot] + row[spot:spot + 2][::-1] + row[spot + 2:]):
                        self.check("\n".join(" ".join(one) for one in rows[:at] + [new] + rows[at + 1:]))
        self.assertGreater(taken, 40)

    def test_digits(self):
        for old, new in (("registers 2", "registers 02"), ("modulus 1000", "modulus 01000"), ("modulus 1000", "modulus +1000"),
                         ("constant 1 5", "constant 1 05"), ("constant 1 5", "constant 01 5"), ("stages 2 1", "stages 2 01"),
                         ("rise 0", "rise -0"), ("rise 0", "rise 00"), ("rise 0", "rise +0"), ("rise 0", "rise 1e3"),
                         ("block 0 1 6 -", "block 0 1 06 -"), ("block 0 1 6 -", "block 00 1 6 -"), ("block 0 1 6 -", "block 0 1 +6 -"),
                         ("block 0 1 6 -", "block 0 1 6"), ("begin 0", "begin 00"), ("begin 0", "begin +0"), ("load 0 0", "load 00 0"),
                         ("store 0 0", "store 0 -0"), ("set 1 1", "set 1 01"), ("tell 0", "tell 00"), ("tell 0", "tell"),
                         ("tell 0", "tell 0 0 0 0"), ("let 0 r0 + r1", "let 0 r00 + r1"), ("let 0 r0 + r1", "let 0 1 * r0 + r1"),
                         ("let 0 r0 + r1", "let 0 r0 +"), ("let 0 r0 + r1", "let 0"), ("let 0 r0 + r1", "let 0 r0 - -1 * r1"),
                         ("let 0 r0 + r1", "let 0 - r0 + r1"), ("let 0 r0 + r1", "let 0 -r0 + r1"), ("let 0 r0 + r1", "let 0 r0 r1"),
                         ("let 0 r0 + r1", "let 0 a + k"), ("let 0 r0 + r1", "let 0 r0 * 2 + r1"), ("let 0 r0 + r1", "let 0 2 * 3 + r1"),
                         ("let 0 r0 + r1", "let 0 r0 + -0"), ("let 0 r0 + r1", "let 0 r0 - 0 * r1"), ("let 0 r0 + r1", "let 0 r2"),
                         ("let 0 r0 + r1", "let 0 1000000 * r1"), ("let 0 r0 + r1", "let 0 r0 + r0 + r0 + r0 + r0"),
                         ("let 0 r0 + r1", "let 0 r0 * r0 * r0 * r0"), ("let 0 r0 + r1", "let 0 r-1"), ("let 0 r0 + r1", "let 0 0r0"),
                         ("names a k", "names k a"), ("names a k", "names a a"), ("names a k", "names a"), ("inputs a", "inputs k"),
                         ("inputs a", "inputs"), ("results a", "results a b"), ("results a", "results a -"), ("results a", "results k a"),
                         ("holding - - / a", "holding - / a"), ("holding - - / a", "holding - - - / a"), ("holding - - / a", "holding - - a"),
                         ("holding - - / a", "holding - - /"), ("holding - - / a", "holding - - / a / a"), ("holding - - / a", "holding / a"),
                         ("holding a k / -", "holding a k / k a"), ("stages 2 1", "stages 1 2"), ("stages 2 1", "stages 2 2"),
                         ("stages 2 1", "stages 2"), ("registers 2", "registers 5"), ("registers 2", "registers 2 2")):
            self.assertIn(old, SMALL_TEXT.split("\n"))
            self.refused(SMALL_TEXT.replace(old, new, 1))

    def test_spaces_and_newlines(self):
        for text in (SMALL_TEXT, BARE_TEXT):
            for other in (text + "\n", text + " ", "\n" + text, " " + text, text.replace("\n", "\n\n", 1), text.replace(" ", "  ", 1),
                          text.replace("\n", " \n", 1), text.replace("\n", "\n ", 1), text.replace("\n", "\r\n"), text + "\n\n",
                          text.replace("\n", "\t\n", 1), text.upper(), text + text, text + "\n" + text, text.replace(" ", "\t")):
                self.refused(other)

    def test_texts_whose_code_would_be_refused(self):
        for old, new in (("modulus 1000", "modulus 5"), ("constant 1 5", "constant 2 5"), ("constant 1 5", "constant 1 1000"),
                         ("stages 2 1", "stages 401 1"), ("begin 0", "begin 1"), ("set 1 1", "set 1 0"), ("load 0 0", "load 2 0"),
                         ("block 1 2 1 1", "block 1 2 1 2"), ("block 1 1 1 -", "block 1 1 1 0"), ("block 1 2 1 1", "block 1 2 1 -"),
                         ("modulus 1000", f"modulus {10 ** 18 + 1}"), ("registers 2", "registers 1")):
            self.assertIn(old, SMALL_TEXT)
            other = SMALL_TEXT.replace(old, new, 1)
            if not (old, new) == ("begin 0", "begin 1"):
                self.refused(other)
            else:
                self.assertTrue(self.check(other))

    def test_numbers_of_very_many_digits(self):
        text = SMALL_TEXT.replace("rise 0", "rise " + "7" * 5000)
        self.assertEqual(show_code(read_code(text)), text)
        self.refused(SMALL_TEXT.replace("rise 0", "rise 0" + "7" * 5000))
        self.refused(SMALL_TEXT.replace("rise 0", "rise --" + "7" * 5000))
        for old in ("registers 2", "modulus 1000", "constant 1 5", "stages 2 1", "begin 0", "load 0 0", "tell 0", "let 0 r0 + r1"):
            self.refused(SMALL_TEXT.replace(old, old + "0" * 5000, 1))
        self.refused("7" * 200000)
        self.refused("registers " + "7" * 190000)

    def test_nothing_is_changed(self):
        code = code_for(job())
        before = copy.deepcopy(parts_of(code))
        text = show_code(code)
        read_code(text)
        check_same(self, parts_of(code), before)
        self.assertTrue(issubclass(BadText, LeastError))
        self.assertEqual((show_code.__module__, read_code.__module__), ("leastcode.codetexts",) * 2)


if __name__ == "__main__":
    unittest.main()
