import unittest

from leastcode.errors import (BadInput, BadSum, BadText, MadeAgain, TooMany, Unmade)
from leastcode.sums import Sum
from leastcode.works import Let, Tell, Work
from leastcode.worktexts import read_work, show_work
from helping import ODD_VALUES, alike, caught, check_raises, check_same, said


def let(text):
    """The line with this text."""
    name, value = text.split(" = ")
    return Let(name, Sum.read(value))


WORDS = ["loop", "end", "tell", "fixed", "given"]

# Each work with its text.
TEXTS = [
    (Work([], []), ["modulus 4294967296", "loop", "end"]),
    (Work([], [], modulus=2), ["modulus 2", "loop", "end"]),
    (Work([], [], modulus=10 ** 18), ["modulus 1000000000000000000", "loop", "end"]),
    (Work([], [], given=["a"], modulus=97), ["modulus 97", "given a", "loop", "end"]),
    (Work([], [], given=["c", "aa", "b"], modulus=97), ["modulus 97", "given aa b c", "loop", "end"]),
    (Work([], [], fixed={"c": (12, 3)}, modulus=97), ["modulus 97", "fixed c 12 3", "loop", "end"]),
    (Work([], [], fixed={"d": (0, 0), "c": (10 ** 18 - 1, 9)}, modulus=10 ** 18),
     ["modulus 1000000000000000000", "fixed c 999999999999999999 9", "fixed d 0 0", "loop", "end"]),
    (Work([], [], given=["b", "a"], results=["b", "a"], modulus=97),
     ["modulus 97", "given a b", "results a b", "loop", "end"]),
    (Work([let("x = 1")], [], results=["x"], modulus=97), ["modulus 97", "results x", "x = 1", "loop", "end"]),
    (Work([], [let("x = 1"), Tell("x")], modulus=97), ["modulus 97", "loop", "x = 1", "tell x", "end"]),
    (Work([], [], [let("x = 1"), Tell("x")], modulus=97), ["modulus 97", "loop", "end", "x = 1", "tell x"]),
    (Work([let("x = -1 * b * b * c"), Tell("c", "a", "b")], [let("x = x * a + c - 4 * a"), Tell("x")],
          [let("y = x - c + 0 * x + 0"), Tell("y", "x")], given=["b", "a"], fixed={"c": (96, 0)}, results=["y", "a"],
          modulus=97),
     ["modulus 97", "given a b", "fixed c 96 0", "results a y", "x = -1 * b * b * c", "tell c a b", "loop",
      "x = x * a + c - 4 * a", "tell x", "end", "y = x - c + 0 * x + 0", "tell y x"]),
    (Work([let("loop = given + fixed"), let("end = -1 * loop"), let("tell = 2 * end")],
          [let("loop = tell"), let("end = end"), Tell("loop", "end", "tell"), let("tell = loop")],
          [let("given = end"), Tell("tell"), let("loop = given")], given=["given"], fixed={"fixed": (3, 4)},
          results=["end", "loop", "given"], modulus=97),
     ["modulus 97", "given given", "fixed fixed 3 4", "results end given loop", "loop = given + fixed",
      "end = -1 * loop", "tell = 2 * end", "loop", "loop = tell", "end = end", "tell loop end tell", "tell = loop",
      "end", "given = end", "tell tell", "loop = given"]),
    (Work([let("fixed = 1"), let("given = 2")], [], fixed={"end": (1, 1)}, given=["loop"], modulus=97),
     ["modulus 97", "given loop", "fixed end 1 1", "fixed = 1", "given = 2", "loop", "end"]),
]

HEAD = ["modulus 97", "given a b c d"]


def words_of(rows):
    """The words of each row, with the index of the row."""
    return [(line, row.split(" ")) for line, row in enumerate(rows)]


def wrong_place(line, word, words):
    """Where a text cannot stand any more if something that can stand nowhere comes to this word of this line.

    Without its second word a line that makes a name is no such line, and its first word tells nothing.
    """
    return (line, 0) if word == 1 and words[1:2] == ["="] else (line, word)


def is_told_by_both(words):
    """Whether a line makes a name that would tell another kind of line without the second word."""
    return words[1:2] == ["="] and words[0] in WORDS


def with_words(rows, line, words):
    """The text of these rows with other words of one line."""
    return "\n".join(rows[:line] + [" ".join(words)] + rows[line + 1:])


class Shown(unittest.TestCase):
    def test_texts(self):
        for work, rows in TEXTS:
            for text in (show_work(work), show_work(work=work), str(work)):
                check_same(self, text, "\n".join(rows))

    def test_names_as_words(self):
        for name in WORDS:
            work = Work([let(f"{name} = 5")], [let(f"{name} = {name}"), Tell(name)], results=[name], modulus=97)
            rows = ["modulus 97", f"results {name}", f"{name} = 5", "loop", f"{name} = {name}", f"tell {name}", "end"]
            check_same(self, show_work(work), "\n".join(rows))
            self.assertTrue(read_work(show_work(work)) == work)


class Read(unittest.TestCase):
    def test_texts(self):
        for work, rows in TEXTS:
            text = "\n".join(rows)
            for found in (read_work(text), read_work(text=text), Work.read(text), Work.read(text=text)):
                self.assertIs(type(found), Work)
                self.assertTrue(found == work)
                check_same(self, show_work(found), text)

    def test_long_texts(self):
        work = Work([let("abcdef = 999999 - 999999 * abcdee * abcdee * abcded + 5")] * 176 + [Tell("abcdee")],
                    [let("x = 1")] * 24, [let("x = 2")] * 23, given=["abcdee", "abcded"])
        self.assertTrue(read_work(show_work(work)) == work)


class Errors(unittest.TestCase):
    def check_text(self, rows, line, word):
        text = rows if isinstance(rows, str) else "\n".join(rows)
        for read in (read_work, Work.read):
            found = caught(read, text)
            wanted = BadText(line, word)
            if type(found) is not BadText or not alike(vars(found), vars(wanted)):
                self.fail(f"{said(found)} instead of {said(wanted)} for {text!r:.200}")

    def check_line(self, row, word):
        """A line that cannot stand from this word on cannot stand there in any part."""
        self.check_text(HEAD + [row, "loop", "end"], 2, word)
        self.check_text(HEAD + ["tell a", row], 3, word)
        self.check_text(HEAD + ["loop", row, "end"], 3, word)
        self.check_text(HEAD + ["loop", "end", row], 4, word)
        self.check_text(HEAD + ["loop", "tell a", "end", "tell a", row, row], 6, word)

    def test_values_that_are_no_strings(self):
        for value in [None, True, 5, b"modulus 97\nloop\nend", [], ["modulus 97", "loop", "end"], (), {},
                      Work([], []), Sum((1, ()))]:
            self.check_text_value(value)
        for value in ODD_VALUES:
            self.check_text_value(value)

    def check_text_value(self, value):
        check_raises(self, BadText(0, 0), read_work, value)
        check_raises(self, BadText(0, 0), Work.read, value)

    def test_first_line(self):
        for row in ("", " ", "loop", "modulu 97", "Modulus 97", " modulus 97", "97", "given a", "modulus = 5", "a = 5"):
            self.check_text([row, "loop", "end"], 0, 0)

    def test_modulus(self):
        for word in ("", "1", "0", "-2", "+2", "02", "097", "2.0", "1e3", "x", "modulus", "1000000000000000001",
                     "10000000000000000000", "9" * 5000, "\u0669\u0669", "\u00b2", "9_7"):
            self.check_text([f"modulus {word}", "loop", "end"], 0, 1)
        self.check_text(["modulus", "loop", "end"], 0, 1)
        self.check_text(["modulus 97 97", "loop", "end"], 0, 2)
        self.check_text(["modulus 97 ", "loop", "end"], 0, 2)
        self.check_text(["modulus  97", "loop", "end"], 0, 1)
        self.check_text(["modulus 1 97", "loop", "end"], 0, 1)

    def test_names_of_given_and_results(self):
        for kind in ("given", "results"):
            for row, word in (("", 1), (" ", 1), (" A", 1), (" a B", 2), (" abcdefg", 1), (" a ", 2), (" a  b", 2),
                              (" a a", 2), (" b a", 2), (" a b b", 3), (" a c b", 3), (" b aa", 2), (" = a", 0),
                              (" a = b", 2), (" a 1", 2), (" \u00e9", 1)):
                # With = behind it the word results makes nothing, for it is no name; the word given is one.
                if (kind, row) != ("given", " = a"):
                    self.check_text(["modulus 97", kind + row, "loop", "end"], 1, word)

    def test_fixed(self):
        for row, word in (("fixed", 1), ("fixed ", 1), ("fixed C", 1), ("fixed c", 2), ("fixed c x", 2),
                          ("fixed c -1", 2), ("fixed c 01 1", 2), ("fixed c 00", 2), ("fixed c +1", 2),
                          ("fixed c 1000000000000000000 1", 2), ("fixed c " + "1" * 5000, 2), ("fixed c 5", 3),
                          ("fixed c 5 ", 3), ("fixed c 5 10", 3), ("fixed c 5 -1", 3), ("fixed c 5 05", 3),
                          ("fixed c 5 x", 3), ("fixed c 5 5 5", 4), ("fixed c 5 5 ", 4), ("fixed  c 5 5", 1),
                          ("fixed c 5  5", 3), ("fixed c \u0665 5", 2), ("fixed C x y z", 1), ("fixed c 5 x z", 3)):
            self.check_text(["modulus 97", row, "loop", "end"], 1, word)
            self.check_text(["modulus 97", "given a", "fixed b 1 1", row, "loop", "end"], 3, word)

    def test_order_of_fixed_names(self):
        for name, word in (("c", 1), ("b", 1), ("ab", 1)):
            self.check_text(["modulus 97", "fixed c 1 1", f"fixed {name} 1 1", "loop", "end"], 2, word)
        self.check_text(["modulus 97", "fixed a 1 1", "fixed c 1 1", "fixed b 1 1", "loop", "end"], 3, 1)

    def test_order_of_the_first_lines(self):
        rows = {"modulus": "modulus 97", "given": "given a", "fixed": "fixed c 1 1", "results": "results a"}
        kinds = list(rows)
        for at, kind in enumerate(kinds):
            for other in kinds[:at + 1]:
                if (kind, other) != ("fixed", "fixed"):
                    lines = [rows[name] for name in kinds[:at + 1]] + [rows[other], "loop", "end"]
                    self.check_text(lines, at + 1, 0)
            for lines in (["tell a"], ["loop"], ["loop", "tell a"], ["loop", "end"], ["loop", "end", "tell a"]):
                self.check_text(HEAD + lines + [rows[kind], "loop", "end"], len(HEAD + lines), 0)

    def test_first_words(self):
        for row in ("", " ", "x", "tel a", "Tell a", "TELL a", " tell a", "x  = a", "=", "= a", "= =", "-", "a b = c",
                    "\ttell a", "begin", "x=a", "x =a", "let x = a"):
            self.check_line(row, 0)
        for row in ("X = a", "abcdefg = a", " = a", "modulus = a", "results = a", "= = a", "1 = a", "\u00e9 = a"):
            self.check_line(row, 0)

    def test_marks(self):
        self.check_text(HEAD + ["end", "loop"], 2, 0)
        self.check_text(HEAD + ["loop", "loop", "end"], 3, 0)
        self.check_text(HEAD + ["loop", "tell a", "loop"], 4, 0)
        self.check_text(HEAD + ["loop", "end", "end"], 4, 0)
        self.check_text(HEAD + ["loop", "end", "loop", "end"], 4, 0)
        for word in ("x", "", "loop", "end", "5"):
            self.check_text(HEAD + [f"loop {word}", "end"], 2, 1)
            self.check_text(HEAD + ["loop", f"end {word}"], 3, 1)
        self.check_text(HEAD + ["loop  x", "end"], 2, 1)

    def test_tells(self):
        for row, word in (("tell", 1), ("tell ", 1), ("tell A", 1), ("tell  a", 1), ("tell a ", 2), ("tell a  b", 2),
                          ("tell a a", 2), ("tell a b a", 3), ("tell a b b", 3), ("tell a b c d", 4), ("tell a b c ", 4),
                          ("tell a b c 5", 4), ("tell a b c a", 4), ("tell 5", 1), ("tell a = b", 2), ("tell a, b", 1),
                          ("tell abcdefg", 1), ("tell a B a", 2), ("tell a a B", 2), ("tell \u00e9", 1)):
            self.check_line(row, word)

    def test_sums_behind_the_sign_of_equality(self):
        for word in ("", "A", "-", "+", "*", "=", "-0", "-00", "-01", "00", "01", "1000000", "-1000000", "+1", "--1", "-a",
                     "1.0", "abcdefg", "\u0663", "-\u0663", "- 1", "-x", "0x1", "\t1"):
            self.check_line(f"x = {word}", 2)
        self.check_line("x =", 2)

    def test_sums_behind_signs(self):
        for word in ("", "A", "-", "+", "*", "=", "-0", "-1", "00", "01", "1000000", "+1", "-a", "abcdefg", "tell,"):
            for first in ("a", "5", "-5", "2 * a", "a * b * c"):
                at = 3 + len(first.split(" "))
                self.check_line(f"x = {first} + {word}", at)
                self.check_line(f"x = {first} - {word}", at)
        self.check_line("x = a - 0", 4)
        self.check_line("x = a - 0 * b", 4)
        self.check_line("x = a - b - 0", 6)
        self.check_line("x = a +", 4)
        self.check_line("x = a -", 4)
        self.check_line("x = a + b -", 6)

    def test_sums_behind_factors(self):
        for factor in ("0", "1", "2", "-1", "-2", "999999", "a + 0", "a - 5"):
            at = 2 + len(factor.split(" "))
            for word in ("", "a", "5", "=", "-1", "+1", "**", "/"):
                self.check_line(f"x = {factor} {word}", at)
        self.check_line("x = 1 * a", 3)
        self.check_line("x = 1 *", 3)
        self.check_line("x = a + 1 * b", 5)
        self.check_line("x = a - 1 * b", 5)

    def test_sums_behind_stars(self):
        for first in ("2 *", "-1 *", "0 *", "a *", "a * b *", "a + 2 *", "a - b *"):
            at = 2 + len(first.split(" "))
            for word in ("", "5", "-1", "A", "*", "+", "-", "=", "abcdefg"):
                self.check_line(f"x = {first} {word}", at)
            self.check_line(f"x = {first}", at)

    def test_sums_behind_names(self):
        for first in ("a", "2 * a", "a * b", "a + b", "a - 3 * b", "a * b * c"):
            at = 2 + len(first.split(" "))
            for word in ("", "a", "5", "-1", "=", "**", "A", "tell"):
                self.check_line(f"x = {first} {word}", at)

    def test_bounds_of_sums(self):
        self.check_line("x = a * a * a * a", 7)
        self.check_line("x = a * a * a *", 7)
        self.check_line("x = 2 * a * a * a * a", 9)
        self.check_line("x = a + b * a * a * b", 9)
        self.check_line("x = 1 + 1 + 1 + 1 + 1", 9)
        self.check_line("x = a - a - a - a - a", 9)
        self.check_line("x = 2 * a - 2 * a - 2 * a - 2 * a + A", 17)
        self.check_line("x = a + b + c + d", 8)
        self.check_line("x = a * b * c + d", 8)
        self.check_line("x = a * b * c - 2 * d * A", 10)
        self.check_line("x = a * b + 0 * c * d", 10)

    def test_missing_lines(self):
        self.check_text(["modulus 97"], 1, 0)
        self.check_text(["modulus 97", "given a"], 2, 0)
        self.check_text(["modulus 97", "given a", "fixed c 1 1", "results a"], 4, 0)
        self.check_text(["modulus 97", "x = 1", "tell x"], 3, 0)
        self.check_text(["modulus 97", "loop"], 2, 0)
        self.check_text(["modulus 97", "x = 1", "loop", "tell x"], 4, 0)
        self.check_text("", 0, 0)

    def test_empty_lines(self):
        for work, rows in TEXTS:
            for at in range(len(rows) + 1):
                self.check_text(rows[:at] + [""] + rows[at:], at, 0)

    def test_first_wrong_word_is_told(self):
        self.check_text(["modulus 97", "tell A", "x = +", "foo"], 1, 1)
        self.check_text(["modulus 97", "x = a", "tell"], 2, 1)
        self.check_text(["modulus 1", "foo"], 0, 1)
        self.check_line("X = + +", 0)
        self.check_line("x = A B", 2)
        self.check_line("x = a 5 *", 3)

    def test_other_words_everywhere(self):
        for _, rows in TEXTS:
            for line, words in words_of(rows):
                for word in range(len(words)):
                    for other in ("?", "", "A", "abcdefg"):
                        if word != 1 or not is_told_by_both(words):
                            text = with_words(rows, line, words[:word] + [other] + words[word + 1:])
                            self.check_text(text, *wrong_place(line, word, words))

    def test_blanks_everywhere(self):
        for _, rows in TEXTS:
            for line, words in words_of(rows):
                for word in range(len(words) + 1):
                    if word != 1 or not is_told_by_both(words):
                        text = with_words(rows, line, words[:word] + [""] + words[word:])
                        self.check_text(text, *wrong_place(line, word, words))

    def test_words_too_many_everywhere(self):
        for _, rows in TEXTS:
            for line, words in words_of(rows):
                for other in ("?", "=", "5", "A"):
                    if words not in (["loop"], ["end"]) or other != "=":
                        self.check_text(with_words(rows, line, words + [other]), line, len(words))

    def test_missing_words_everywhere(self):
        many_checked = 0
        for _, rows in TEXTS:
            for line, words in words_of(rows):
                for many in range(1, len(words)):
                    found = caught(read_work, with_words(rows, line, words[:many]))
                    if type(found) is BadText and not is_told_by_both(words):
                        self.assertEqual((found.line, found.word), wrong_place(line, many, words))
                        many_checked += 1
        self.assertGreater(many_checked, 50)

    def test_names_that_tell_kinds_of_lines(self):
        ahead = ["modulus 97", "given fixed given loop tell", "fixed end 1 1"]
        for row, word in (("loop ? a", 1), ("loop  = a", 1), ("end ? a", 0), ("end", 0), ("tell ? a", 1), ("tell", 1),
                          ("fixed ? a", 1), ("fixed", 1), ("given ? a", 0), ("given", 0), ("fixed =", 2), ("tell =", 2),
                          ("loop = = 1", 2), ("end = end =", 3)):
            self.check_text(ahead + [row, "loop", "end"], 3, word)
        for row, word in (("loop ? a", 0), ("end ? a", 1), ("tell ? a", 1), ("fixed ? a", 0), ("given ? a", 0)):
            self.check_text(ahead + ["tell end", "loop", row, "end"], 5, word)
        for row, word in (("loop ? a", 0), ("end ? a", 0), ("tell ? a", 1), ("fixed ? a", 0), ("given ? a", 0)):
            self.check_text(ahead + ["tell end", "loop", "end", row], 6, word)
            self.check_text(ahead + ["tell end", "loop", "end", row.replace("?", "=") + " ?"], 6, 3)


class RefusedWorks(unittest.TestCase):
    def check_refused(self, error, *rows):
        check_raises(self, error, read_work, "\n".join(rows))
        check_raises(self, error, Work.read, "\n".join(rows))

    def test_each_error(self):
        one = ["x = 1"]
        self.check_refused(TooMany(200), "modulus 97", *one * 201, "loop", "end")
        self.check_refused(TooMany(24), "modulus 97", "loop", *one * 25, "end")
        self.check_refused(TooMany(24), "modulus 97", "loop", "end", *one * 25)
        self.check_refused(TooMany(200), "modulus 97", *one * 190, "loop", "end", *one * 11)
        self.check_refused(TooMany(6), "modulus 97", "given a b c d e f g", "loop", "end")
        self.check_refused(TooMany(6), "modulus 97", "results a b c d e f g", "loop", "end")
        self.check_refused(Unmade(("ahead", 0), "x"), "modulus 97", "tell x", "loop", "end")
        self.check_refused(Unmade(("loop", 1), "y"), "modulus 97", "loop", "x = 1", "x = x + y", "end")
        self.check_refused(Unmade(("behind", 0), "x"), "modulus 97", "loop", "x = 1", "end", "tell x")
        self.check_refused(Unmade(("behind", 0), "x"), "modulus 97", "results x", "loop", "x = 1", "end")
        self.check_refused(MadeAgain(("loop", 0), "x"), "modulus 97", "fixed x 1 1", "loop", "x = 1", "end")
        self.check_refused(BadInput("c"), "modulus 97", "fixed c 97 1", "loop", "end")
        self.check_refused(BadInput("c"), "modulus 97", "given c", "fixed c 96 1", "loop", "end")

    def test_words_come_ahead_of_the_work(self):
        self.check_refused(BadText(3, 0), "modulus 97", "tell x", "loop", "foo")
        self.check_refused(BadText(3, 0), "modulus 97", "given a b c d e f g", "loop")


class Interface(unittest.TestCase):
    def test_names_stand_in_the_file(self):
        for function in (show_work, read_work):
            self.assertEqual(function.__module__, "leastcode.worktexts")
        self.assertRaises(BadSum, Sum.read, "modulus 97")


if __name__ == "__main__":
    unittest.main()
