import itertools
import random
import unittest

from leastcode.coding import code_for
from leastcode.desk import Desk
from leastcode.errors import BadLine, TooMany
from leastcode.machine import run
from leastcode.outcomes import outcome
from leastcode.prices import Prices
from leastcode.tables import row, turn_to_go
from leastcode.tasks import Task
from leastcode.works import Work
from leastcode.worktexts import read_work, show_work
from helping import ODD_VALUES, check_raises, check_same
from handmade import small_code
from jobs import FULL, TURNS, job
from plain import draw_work
from test_coding import run_price

JOB = "modulus 1000 ; given a b ; results a ; loop ; tell a ; c = a + b ; a = b ; b = c ; end"
FLAT = "modulus 97 ; given x y ; fixed k 5 3 ; results k x ; loop ; x = 2 * x + k ; end ; tell y x"
BARE = "modulus 2 ; loop ; end"
HUGE = 10 ** 30 - 1
LATE = "modulus 97 ; given a b c d e ; loop ; tell a ; tell b ; tell c ; tell d ; tell e ; end"
WORDS = ["slots 3", "prices 1 2", "show", "row", "turn", "price 4", "tell 3 0 1", "run 3 0 1"]


def text_of(work):
    return show_work(work).replace("\n", " ; ")


def desk_with(text):
    desk = Desk()
    assert desk.say("work " + text) == "ok"
    return desk


def said(told, ends):
    """The text of what a work says."""
    return " / ".join(" ".join(str(value) for value in values) or "-" for values in (told, [ends[name] for name in sorted(ends)]))


class Lines(unittest.TestCase):
    def check(self, desk, line, wanted):
        answer = desk.say(line)
        check_same(self, answer, wanted)

    def test_without_a_work(self):
        desk = Desk()
        self.assertIsNone(desk.task)
        for line in WORDS + ["slots 0", "price 0", "tell 0", "run 0", "prices 9 9"]:
            self.check(desk, line, "no work")
            self.assertIsNone(desk.task)
        self.check(desk, "work x", "refused BadText")
        self.assertIsNone(desk.task)
        self.check(desk, "row", "no work")

    def test_a_new_work(self):
        desk = Desk()
        self.check(desk, "work " + JOB, "ok")
        self.assertIs(type(desk.task), Task)
        self.assertEqual(desk.task, job())
        for text in (FLAT, BARE, JOB.replace(" ; ", "\n"), JOB.replace(" ; ", "\n", 3), *[text_of(task.work) for task in FULL]):
            self.check(desk, "work " + text, "ok")
            work = read_work(text.replace(" ; ", "\n"))
            self.assertEqual(desk.task, Task(work, work.room, Prices(1, 1)))
            self.check(desk, "show", show_work(work).replace("\n", " ; "))

    def test_drawn_works(self):
        desk = Desk()
        for seed in range(60):
            work = draw_work(random.Random(seed), "abcd", 3)
            try:
                task = Task(work, work.room)
            except TooMany:
                self.check(desk, "work " + text_of(work), "refused TooMany")
                continue
            self.check(desk, "work " + text_of(work), "ok")
            self.assertEqual(desk.task, task)
            self.check(desk, "show", text_of(work))
            self.check(desk, "row", str(row(task)))
            self.check(desk, "turn", " ".join(str(number) for number in turn_to_go(task)))
            rng = random.Random(seed)
            for n in (0, 1, 5):
                values = [rng.randrange(7) for _ in work.given]
                inputs = dict(zip(work.given, values))
                told = said(*outcome(work, inputs, n))
                words = " ".join(str(value) for value in [n, *values])
                self.check(desk, "tell " + words, told)
                self.check(desk, "run " + words, f"{told} / {row(task)[n]}")

    def test_slots_and_prices(self):
        desk = desk_with(JOB)
        self.check(desk, "slots 4", "ok")
        self.assertEqual(desk.task, Task(job().work, 4))
        self.check(desk, "prices 2 9", "ok")
        self.assertEqual(desk.task, Task(job().work, 4, Prices(2, 9)))
        self.check(desk, "slots 3", "ok")
        self.assertEqual(desk.task, Task(job().work, 3, Prices(2, 9)))
        self.check(desk, "row", str(row(desk.task)))
        self.check(desk, "prices 0 0", "ok")
        self.check(desk, "row", "| 0 + 0")
        # A new work has its own slots, and all prices 1 again.
        self.check(desk, "work " + FLAT, "ok")
        self.assertEqual(desk.task, Task(read_work(FLAT.replace(" ; ", "\n")), 2, Prices(1, 1)))

    def test_row_turn_and_price(self):
        for task, _, turning, text in TURNS:
            desk = desk_with(text_of(task.work))
            desk.run(f"slots {task.slots}", f"prices {task.prices.load} {task.prices.store}")
            other = Task(task.work, task.slots, Prices(task.prices.load, task.prices.store))
            self.assertEqual(desk.task, other)
            self.check(desk, "row", str(row(other)))
            self.check(desk, "turn", " ".join(str(number) for number in turn_to_go(other)))
            if task == other:
                self.check(desk, "row", text)
                self.check(desk, "turn", " ".join(str(number) for number in turning))
            for n in (0, 1, 2, 3, 77, 10 ** 29, HUGE):
                self.check(desk, f"price {n}", str(row(other)[n]))

    def test_tell(self):
        desk = desk_with(JOB)
        self.check(desk, "tell 10 0 1", "0 1 1 2 3 5 8 13 21 34 / 55")
        self.check(desk, "tell 0 7 8", "- / 7")
        self.check(desk, "tell 1 999 0", "999 / 0")
        self.check(desk_with("modulus 10 ; given a ; loop ; tell a ; end"), "tell 2 7", "7 7 / -")
        self.check(desk_with("modulus 10 ; given a ; loop ; tell a ; end"), "tell 0 7", "- / -")
        self.check(desk_with(BARE), "tell 3", "- / -")
        self.check(desk_with(BARE), f"tell {HUGE}", "- / -")
        desk = desk_with(FLAT)
        for n in (0, 1, 2, 2000, 2001, HUGE):
            told, ends = outcome(desk.task.work, {"x": 3, "y": 96}, n)
            self.check(desk, f"tell {n} 3 96", f"96 {told[1]} / 5 {ends['x']}")

    def test_run(self):
        desk = desk_with(JOB)
        self.check(desk, "run 10 0 1", "0 1 1 2 3 5 8 13 21 34 / 55 / 3")
        self.check(desk, "run 0 7 8", "- / 7 / 0")
        self.check(desk_with(BARE), "run 3", "- / - / 0")
        desk = desk_with(FLAT)
        for first in ("slots 2", "prices 0 5", "prices 9 0", "slots 4", "prices 3 1"):
            self.check(desk, first, "ok")
            task = desk.task
            for n in (0, 1, 2, 2001, HUGE):
                told = said(*outcome(task.work, {"x": 3, "y": 96}, n))
                self.check(desk, f"run {n} 3 96", f"{told} / {row(task)[n]}")
                self.assertEqual(row(task)[n], run_price(task, run(code_for(task), {"x": 3, "y": 96}, n)))

    def test_great_values(self):
        text = f"modulus {10 ** 18} ; given a ; results a ; loop ; a = 999999 * a + 7 ; end"
        desk = desk_with(text)
        value = 10 ** 18 - 1
        for n in (1, HUGE):
            _, ends = outcome(desk.task.work, {"a": value}, n)
            self.check(desk, f"tell {n} {value}", f"- / {ends['a']}")
        self.check(desk, "work modulus 1000 ; given a ; loop ; tell a ; end", "ok")

    def test_prices_far_out(self):
        desk = desk_with("modulus 9 ; given a b ; loop ; a = a + 1 ; b = b + 1 ; end")
        desk.run("prices 9 9", "slots 1")
        told = row(desk.task)
        self.check(desk, f"price {HUGE}", str(told[HUGE]))
        self.check(desk, f"run {HUGE} 1 2", f"- / - / {told[HUGE]}")


class Wrong(unittest.TestCase):
    def test_lines_that_are_none(self):
        for desk in (Desk(), desk_with(JOB)):
            task = desk.task
            for value in [value for value in ODD_VALUES if not isinstance(value, str)] + [
                    0, 10 ** 59, ["row"], ("row",), {"row": 1}, small_code(), Work([], []), job(), "", " ", "Row", "rows", " row", "row\n",
                    "work\n" + JOB, "works", "slot 3", "x", "-", "rows 1", "say row", "\nrow", "work\t" + JOB, "show\t", "a" * 2000]:
                check_raises(self, BadLine(0), desk.say, value)
                check_raises(self, BadLine(0), desk.run, value)
            self.assertIs(desk.task, task)

    def test_each_word_wrong_or_missing(self):
        lines = {
            "slots": [1], "prices": [1], "prices 1": [2], "price": [1], "tell": [1], "run": [1], "work": [1],
            "show 1": [1], "show ": [1], "row ": [1], "row row": [1], "row 1": [1], "turn 0": [1], "turn  ": [1], "show  1": [1],
            "slots 3 ": [2], "slots 3 4": [2], "prices 1 2 3": [3], "prices 1 2 ": [3], "price 1 2": [2], "price 1 ": [2],
            "slots  3": [1], "prices  1": [1], "prices 1  2": [2], "tell  1": [1], "tell 1  2": [2], "run 1 2 ": [3],
        }
        for line, (word,) in lines.items():
            for desk in (Desk(), desk_with(JOB)):
                check_raises(self, BadLine(word), desk.say, line)
        bad = ["", "x", "-1", "+1", "00", "01", "1.", "1_0", "0x1", "\u0661", "\u00b2", "1\n", "1\t", "None", "True", "ten", "-0", "10" * 16]
        for word in bad:
            for form, at in (("slots {}", 1), ("prices {} 1", 1), ("prices 1 {}", 2), ("prices {}", 1), ("prices {} x", 1),
                             ("price {}", 1), ("tell {}", 1), ("tell {} x", 1), ("tell 1 {}", 2), ("tell 1 2 {}", 3), ("run {} 1", 1),
                             ("run 1 {} 2", 2), ("run 1 2 3 {}", 4), ("show {}", 1), ("row {}", 1), ("turn {} 1", 1), ("price 1 {}", 2),
                             ("slots 3 {}", 2), ("prices 1 2 {}", 3)):
                for desk in (Desk(), desk_with(JOB)):
                    check_raises(self, BadLine(at), desk.say, form.format(word))

    def test_single_digits(self):
        for digit in range(10):
            desk = desk_with(JOB)
            self.assertEqual(desk.say(f"prices {digit} {9 - digit}"), "ok")
            self.assertEqual(desk.say(f"slots {digit}"), "ok" if digit in (3, 4) else
                             "refused BadSlots" if digit in (0, 5, 6, 7, 8, 9) else "refused NoRoom")
        for line, word in (("slots 10", 1), ("prices 10 1", 1), ("prices 1 10", 2), ("prices 00 1", 1)):
            check_raises(self, BadLine(word), desk_with(JOB).say, line)

    def test_numbers_of_30_and_31_digits(self):
        desk = desk_with(FLAT)
        self.assertEqual(desk.say("price " + "9" * 30), str(row(desk.task)[HUGE]))
        self.assertEqual(desk.say("tell 1 1 " + "9" * 30), "refused BadInput")
        self.assertEqual(desk.say("tell " + "9" * 30 + " 1 1"), said(*outcome(desk.task.work, {"x": 1, "y": 1}, HUGE)))
        for line, word in (("price " + "9" * 31, 1), ("tell " + "1" * 31, 1), ("tell 1 1 " + "1" * 31, 3), ("run 1 " + "9" * 31, 2),
                           ("run " + "9" * 31, 1), ("price 0" + "9" * 29, 1)):
            check_raises(self, BadLine(word), desk.say, line)

    def test_what_stands_behind_work_is_its_text(self):
        for text in ("", " ", "x", " " + BARE, BARE + " ", BARE + " ; ", BARE.replace(" ; ", ";"), BARE.replace(" ; ", " ;  "),
                     BARE.replace(" ; ", " ;; "), "modulus 1 ; loop ; end", "loop ; end", BARE + "\n", "modulus 02 ; loop ; end"):
            desk = desk_with(JOB)
            self.assertEqual(desk.say("work " + text), "refused BadText")
            self.assertEqual(desk.task, job())


class Refused(unittest.TestCase):
    def refused(self, desk, line, name):
        task = desk.task
        self.assertEqual(desk.say(line), f"refused {name}")
        self.assertIs(desk.task, task)

    def test_works(self):
        for text, name in (("x", "BadText"), ("modulus 9 ; loop ; tell a ; end", "Unmade"), ("modulus 9 ; results a ; loop ; end", "Unmade"),
                           ("modulus 9 ; fixed k 9 1 ; loop ; end", "BadInput"), ("modulus 9 ; given k ; fixed k 1 1 ; loop ; end", "BadInput"),
                           ("modulus 9 ; fixed k 1 1 ; loop ; k = 1 ; end", "MadeAgain"),
                           ("modulus 9 ; given a b c d e f ; loop ; g = 1 ; end", "TooMany"),
                           ("modulus 9 ; given a ; loop" + " ; tell a" * 25 + " ; end", "TooMany"),
                           ("modulus 9 ; given a" + " ; tell a" * 201 + " ; loop ; end", "TooMany")):
            self.refused(desk_with(JOB), "work " + text, name)
        # Too many sound standings: four slots are wanted, and six names are needed, most of them fixed.
        text = ("modulus 9 ; given a b ; fixed c 1 1 ; fixed d 1 1 ; fixed e 1 1 ; fixed f 1 1 ; loop ; tell a b c ; tell d e f ; "
                "a = b + c + d ; end")
        self.refused(desk_with(JOB), "work " + text, "TooMany")

    def test_slots_and_prices(self):
        self.refused(desk_with(JOB), "slots 0", "BadSlots")
        self.refused(desk_with(JOB), "slots 5", "BadSlots")
        self.refused(desk_with(JOB), "slots 2", "NoRoom")
        text = "modulus 9 ; given a b c d e ; fixed f 1 1 ; loop ; tell a b ; tell c d ; tell e f ; end"
        desk = desk_with(text)
        self.assertEqual(desk.task.slots, 2)
        self.refused(desk, "slots 4", "TooMany")

    def test_inputs(self):
        for word in ("tell", "run"):
            for values in ("", " 1", " 1 2 3", " 1000", " 1 2 3 4 5 6 7"):
                self.refused(desk_with(JOB), f"{word} 3{values}", "BadInput")
            for values in ("1000 0", "0 1000", "0 " + "9" * 30):
                self.refused(desk_with(JOB), f"{word} 3 {values}", "BadInput")
            self.refused(desk_with(BARE), f"{word} 3 1", "BadInput")
            self.refused(desk_with(JOB), f"{word} 2001 0 1", "TooMany")
            self.refused(desk_with(JOB), f"{word} {HUGE} 0 1", "TooMany")
            self.refused(desk_with(JOB), f"{word} 2001 0 1000", "BadInput")
            self.refused(desk_with(JOB), f"{word} 2001 0", "BadInput")

    def test_no_code(self):
        # The turn to go comes so late that there are too many numbers for a code.
        desk = desk_with(LATE)
        self.assertEqual(desk.run("slots 4", "prices 1 9", "turn", "show"), ["ok", "ok", "110 4 5", LATE])
        check_raises(self, TooMany(3000), code_for, desk.task)
        good, bad = " 1 2 3 4 5", " 1 2 3 4 97"
        # Too few and too many values come ahead of all else, other wrong ones behind what code_for raises.
        self.refused(desk, "run 1" + good, "TooMany")
        self.refused(desk, "run 1" + bad, "TooMany")
        self.refused(desk, "run 2001" + bad, "TooMany")
        self.refused(desk, "run 1" + good + " 1", "BadInput")
        self.refused(desk, "run 1" + good[2:], "BadInput")
        self.refused(desk, "tell 1" + bad, "BadInput")
        self.refused(desk, "tell 2001" + bad, "BadInput")
        self.refused(desk, "tell 2001" + good, "TooMany")
        self.assertEqual(desk.say("tell 1" + good), "1 2 3 4 5 / -")
        self.assertEqual(desk.run("slots 1", "run 1" + bad), ["ok", "refused BadInput"])
        self.refused(desk, "run 2001" + bad, "BadInput")
        self.refused(desk, "run 2001" + good, "TooMany")


class Runs(unittest.TestCase):
    def test_many_lines(self):
        desk = Desk()
        self.assertEqual(desk.run(), [])
        answers = desk.run("row", "work " + JOB, "row", "price 9", "tell 10 0 1", "run 10 0 1", "slots 2")
        self.assertEqual(answers, ["no work", "ok", "0 | 3 + 0", "3", "0 1 1 2 3 5 8 13 21 34 / 55",
                                   "0 1 1 2 3 5 8 13 21 34 / 55 / 3", "refused NoRoom"])
        answers.append(None)
        self.assertEqual(desk.run("row"), ["0 | 3 + 0"])

    def test_one_of_them_raises(self):
        desk = Desk()
        check_raises(self, BadLine(1), desk.run, "work " + JOB, "slots 4", "slots", "slots 3")
        self.assertEqual(desk.task, Task(job().work, 4))
        check_raises(self, BadLine(0), desk.run, "prices 2 3", None, "prices 1 1")
        self.assertEqual(desk.task, Task(job().work, 4, Prices(2, 3)))
        check_raises(self, BadLine(0), desk.run, ["row"])

    def test_desks_of_their_own(self):
        one, other = desk_with(JOB), Desk()
        self.assertEqual((one.say("row"), other.say("row")), ("0 | 3 + 0", "no work"))

    def test_by_name(self):
        desk = Desk()
        self.assertEqual(desk.say(line="work " + BARE), "ok")

    def test_all_lines_again_and_again(self):
        desk = desk_with(JOB)
        first = [desk.say(line) for line in WORDS]
        for order in itertools.islice(itertools.permutations(range(2, 8)), 0, 720, 60):
            for at in order:
                self.assertEqual(desk.say(WORDS[at]), first[at])

    def test_names_stand_in_the_class(self):
        self.assertEqual(Desk.__module__, "leastcode.desk")
        for name in ("say", "run"):
            self.assertTrue(callable(vars(Desk)[name]))


if __name__ == "__main__":
    unittest.main()
