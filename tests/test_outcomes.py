import itertools
import random
import unittest

from leastcode.errors import BadInput, BadNumber, TooMany
from leastcode.outcomes import outcome
from leastcode.sums import Sum
from leastcode.works import Let, Tell, Work
from leastcode.worktexts import read_work
from helping import ODD_VALUES, check_raises, check_same
from plain import draw_work, plain_outcome

HUGE = 10 ** 59 + 7


def let(text):
    """The line with this text."""
    name, value = text.split(" = ")
    return Let(name, Sum.read(value))


def work_of(rows, modulus=1000):
    """The work with these lines of its text, with semicolons between."""
    return read_work("\n".join([f"modulus {modulus}", *rows.split("; ")]))


FIBONACCI = work_of("given a b; results a; loop; tell a; c = a + b; a = b; b = c; end")
DOUBLING = work_of("given x; results x; loop; x = 2 * x + 1; end")


def drawn_inputs(rng, work):
    return {name: rng.randrange(work.modulus) for name in work.given}


class Values(unittest.TestCase):
    def test_tells_in_order(self):
        work = work_of("given a b; results a b; tell b a; loop; tell a; tell b a; a = a + 1; end; tell a b; tell b")
        check_same(self, outcome(work, {"a": 1, "b": 999}, 0), ((999, 1, 1, 999, 999), {"a": 1, "b": 999}))
        check_same(self, outcome(work, {"a": 1, "b": 999}, 2),
                   ((999, 1, 1, 999, 1, 2, 999, 2, 3, 999, 999), {"a": 3, "b": 999}))

    def test_nothing_told_and_no_results(self):
        check_same(self, outcome(Work([], []), {}, 0), ((), {}))
        check_same(self, outcome(Work([], []), {}, 5), ((), {}))
        check_same(self, outcome(Work([], [Tell("a")], given=["a"]), {"a": 0}, 0), ((), {}))

    def test_results_of_each_kind(self):
        work = work_of("given a e; fixed c 7 0; results a b c d e; b = a + 1; loop; a = a + b; e = 5; end; d = b * b - a")
        check_same(self, outcome(work, {"a": 2, "e": 9}, 0), ((), {"a": 2, "b": 3, "c": 7, "d": 7, "e": 9}))
        check_same(self, outcome(work, {"a": 2, "e": 9}, 2), ((), {"a": 8, "b": 3, "c": 7, "d": 1, "e": 5}))

    def test_fixed_names_keep_their_constants(self):
        work = work_of("given x; fixed c 998 1; results c x; tell c; loop; x = x * c; tell c; end; tell c")
        check_same(self, outcome(work, {"x": 1}, 3), ((998,) * 5, {"c": 998, "x": 992}))

    def test_products_and_great_factors(self):
        for modulus in (2, 3, 97, 10 ** 9 + 7, 10 ** 18):
            work = work_of("given a b; results a b; loop; a = 999999 * a * b * b - 999999 * a + 1; "
                           "b = -999999 * a * a * a + b; tell a b; end; tell b", modulus)
            for values in itertools.product((0, 1, modulus // 2, modulus - 1), repeat=2):
                inputs = dict(zip("ab", values))
                for n in (0, 1, 2, 7):
                    check_same(self, outcome(work, inputs, n), plain_outcome(work, inputs, n))

    def test_a_name_made_from_itself(self):
        work = work_of("given x; results x; loop; x = x * x; tell x; x = x; end")
        check_same(self, outcome(work, {"x": 2}, 4), ((4, 16, 256, 536), {"x": 536}))

    def test_each_line_has_the_values_of_its_time(self):
        work = work_of("given a b; results a b; loop; a = b; b = a; tell a b; end")
        check_same(self, outcome(work, {"a": 1, "b": 2}, 1), ((2, 2), {"a": 2, "b": 2}))

    def test_drawn_works(self):
        for seed in range(200):
            rng = random.Random(seed)
            work = draw_work(rng, "abcde", 5)
            inputs = drawn_inputs(rng, work)
            for n in (0, 1, 2, 5):
                check_same(self, outcome(work, inputs, n), plain_outcome(work, inputs, n))

    def test_arguments_by_name(self):
        check_same(self, outcome(n=2, inputs={"a": 0, "b": 1}, work=FIBONACCI), ((0, 1), {"a": 1}))


class ManyRounds(unittest.TestCase):
    def test_not_flat(self):
        told, ends = outcome(FIBONACCI, {"a": 0, "b": 1}, 2000)
        check_same(self, (told, ends), plain_outcome(FIBONACCI, {"a": 0, "b": 1}, 2000))
        self.assertEqual(len(told), 2000)
        works = [FIBONACCI, work_of("given a; loop; a = a * a; end"), work_of("given a; loop; a = 0 * a * a; end"),
                 work_of("given a; loop; a = a; tell a; end")]
        for work in works:
            inputs = {name: 1 for name in work.given}
            check_same(self, outcome(work, inputs, 2000), plain_outcome(work, inputs, 2000))
            for n in (2001, 2002, HUGE, 10 ** 70):
                check_raises(self, TooMany(2000), outcome, work, inputs, n)

    def test_flat(self):
        for n in (1999, 2000, 2001, 2002, 10 ** 6, HUGE, 10 ** 200, 2 ** 500 - 1):
            for modulus in (2, 7, 1000, 10 ** 18):
                work = work_of("given x; results x; loop; x = 2 * x + 1; end", modulus)
                for start in (0, 1, modulus - 1):
                    end = ((start + 1) * pow(2, n, modulus) - 1) % modulus
                    check_same(self, outcome(work, {"x": start}, n), ((), {"x": end}))

    def test_tells_and_products_ahead_and_behind(self):
        work = work_of("given a; results a b; tell a; b = a * a * a; loop; a = 3 * a - b; end; tell a b; b = a * b", 101)
        self.assertIs(work.is_flat, True)
        for n in (0, 1, 2, 2000, 2001, HUGE):
            for start in (0, 1, 2, 100):
                check_same(self, outcome(work, {"a": start}, n), plain_outcome(work, {"a": start}, n))

    def test_given_names_of_one_another(self):
        work = work_of("given a b c; results a b c; loop; a = b + c; b = a - 2 * c; c = a; end", 13)
        for n in (0, 1, 5, 2001, HUGE, HUGE + 1):
            check_same(self, outcome(work, {"a": 1, "b": 2, "c": 12}, n), plain_outcome(work, {"a": 1, "b": 2, "c": 12}, n))

    def test_loops_without_lines(self):
        work = work_of("given a; results b; tell a; loop; end; b = a * a; tell b")
        for n in (0, 1, 2000, 2001, HUGE):
            check_same(self, outcome(work, {"a": 31}, n), ((31, 961), {"b": 961}))

    def test_names_that_are_made_and_not_carried(self):
        work = work_of("given a; fixed k 3 1; results a; loop; t = 2 * a + k; u = t - a; a = u + t + 0; t = 5; end", 29)
        for n in (0, 1, 2, 2001, HUGE):
            check_same(self, outcome(work, {"a": 4}, n), plain_outcome(work, {"a": 4}, n))

    def test_six_names_and_many_lines(self):
        lines = "; ".join(["a = b + c + f", "b = 5 * d - e + 1 - a", "c = c + d", "d = 999999 * a - 999999 * e",
                           "e = f - 3 + a", "f = f + 1"] * 4)
        work = work_of(f"given a b c d e f; results a b c d e f; loop; {lines}; end", 5)
        inputs = dict(zip("abcdef", (0, 1, 2, 3, 4, 0)))
        for n in (0, 1, 2, 30, 2001, HUGE):
            check_same(self, outcome(work, inputs, n), plain_outcome(work, inputs, n))

    def test_few_rounds_of_great_values(self):
        lines = "; ".join(["a = 999999 * b - c + f", "b = 5 * d - e + 1 - a", "c = c + d", "d = -999999 * a + 2 * e",
                           "e = f - 3 + a", "f = f + d + 1"])
        for modulus in (2, 10 ** 18 - 1, 10 ** 18):
            work = work_of(f"given a b c d e f; results a b c d e f; loop; {lines}; end", modulus)
            inputs = dict(zip("abcdef", (0, 1, modulus - 1, modulus // 2, 1, modulus - 1)))
            for n in range(40):
                check_same(self, outcome(work, inputs, n), plain_outcome(work, inputs, n))

    def test_one_round_more_far_out(self):
        for seed in range(40):
            rng = random.Random(seed)
            modulus = rng.choice((2, 64, 97, 10 ** 9 + 7, 10 ** 18))
            lines = [f"{rng.choice('abcdef')} = {rng.choice((-9, -1, 0, 2, 5))} * {rng.choice('abcdef')} + {rng.choice('abcdef')}"
                     for _ in range(rng.randint(1, 12))]
            work = work_of("; ".join(["given a b c d e f; results a b c d e f; loop", *lines, "end"]), modulus)
            inputs = drawn_inputs(rng, work)
            for n in (20, 2001, 10 ** 59 + seed, 2 ** 200 - seed):
                _, ends = outcome(work, inputs, n)
                check_same(self, outcome(work, ends, 1), outcome(work, inputs, n + 1))
                check_same(self, outcome(work, ends, n), outcome(work, inputs, 2 * n))

    def test_drawn_works(self):
        many = 0
        for seed in range(400):
            rng = random.Random(seed)
            work = draw_work(rng, "abcd", 4)
            if work.is_flat:
                inputs = drawn_inputs(rng, work)
                for n in (0, 1, 2, 3, 2001, HUGE - seed):
                    check_same(self, outcome(work, inputs, n), plain_outcome(work, inputs, n))
                many += 1
        self.assertGreater(many, 50)


class OtherWorks(unittest.TestCase):
    """Works that say the same, for these numbers of rounds."""

    def check_works(self, check):
        for seed in range(60):
            rng = random.Random(seed)
            work = draw_work(rng, "abcd", 4)
            check(work, drawn_inputs(rng, work))

    def test_the_body_written_again(self):
        def check(work, inputs):
            for j, n in itertools.product((1, 2, 3), range(4)):
                check_same(self, outcome(work ** j, inputs, n), outcome(work, inputs, j * n))
        self.check_works(check)

    def test_rounds_put_ahead(self):
        def check(work, inputs):
            for j, n in itertools.product(range(4), repeat=2):
                check_same(self, outcome(work.unrolled(j), inputs, n), outcome(work, inputs, n + j))
        self.check_works(check)

    def test_other_names(self):
        new = {"a": "b", "b": "z", "c": "loop", "d": "a"}

        def check(work, inputs):
            for n in range(4):
                told, ends = outcome(work, inputs, n)
                wanted = told, {new[name]: value for name, value in ends.items()}
                other = {new[name]: value for name, value in inputs.items()}
                check_same(self, outcome(work.renamed(new), other, n), wanted)
        self.check_works(check)

    def test_flat_ones_with_many_rounds(self):
        for j in (2, 3, 24):
            check_same(self, outcome(DOUBLING ** j, {"x": 5}, HUGE), outcome(DOUBLING, {"x": 5}, j * HUGE))
            check_same(self, outcome(DOUBLING.unrolled(j), {"x": 5}, HUGE), outcome(DOUBLING, {"x": 5}, j + HUGE))


class Errors(unittest.TestCase):
    work = work_of("given b a; loop; tell a b; end".replace("b a", "a b"), 97)

    def test_inputs_that_are_no_such_dict(self):
        for inputs in [value for value in ODD_VALUES if value != {"a": 1}] + [
                {"a": 1}, {"b": 1}, {"a": 1, "b": 2, "c": 3}, {"a": 1, "c": 3}, [("a", 1), ("b", 2)], ["a", "b"],
                ("a", "b"), "ab", {1: 1, 2: 2}, {"a": 1, None: 2}, {"a": 1, ("b",): 2}, {"A": 1, "b": 2}, self.work]:
            check_raises(self, BadInput(None), outcome, self.work, inputs, 1)
        check_raises(self, BadInput(None), outcome, Work([], []), {"a": 1}, 1)
        check_raises(self, BadInput(None), outcome, Work([], []), [], 1)
        check_raises(self, BadInput(None), outcome, Work([], [], fixed={"c": (1, 1)}), {"c": 1}, 1)

    def test_values_that_are_none(self):
        for value in [-1, 97, 98, 10 ** 59, -10 ** 59, True, False, None, "1", "", (), [1], {}, {"a": 1}, self.work]:
            check_raises(self, BadInput("a"), outcome, self.work, {"a": value, "b": 1}, 1)
            check_raises(self, BadInput("b"), outcome, self.work, {"a": 1, "b": value}, 1)
            check_raises(self, BadInput("a"), outcome, self.work, {"b": value, "a": value}, 1)
        for value in (0, 1, 96):
            check_same(self, outcome(self.work, {"b": value, "a": 96}, 1), ((96, value), {}))

    def test_numbers_of_rounds_that_are_none(self):
        for n in [-1, -10 ** 59, True, False, None, "1", "", (), [1], {}, self.work]:
            check_raises(self, BadNumber(n), outcome, self.work, {"a": 1, "b": 1}, n)
            check_raises(self, BadNumber(n), outcome, DOUBLING, {"x": 1}, n)

    def test_two_at_once(self):
        good = {"a": 1, "b": 1}
        check_raises(self, BadInput(None), outcome, self.work, {"a": 97}, 1)
        check_raises(self, BadInput(None), outcome, self.work, {"a": 1}, -1)
        check_raises(self, BadInput(None), outcome, self.work, None, 2001)
        check_raises(self, BadInput("a"), outcome, self.work, {"a": 97, "b": 1}, None)
        check_raises(self, BadInput("b"), outcome, self.work, {"a": 0, "b": True}, 2001)
        check_raises(self, BadNumber(-2001), outcome, self.work, good, -2001)
        check_raises(self, TooMany(2000), outcome, self.work, good, 2001)


class Arguments(unittest.TestCase):
    def test_they_stay_as_they_were(self):
        for work, inputs in ((FIBONACCI, {"b": 1, "a": 0}), (DOUBLING, {"x": 3})):
            for n in (0, 1, 5):
                told, ends = outcome(work, inputs, n)
                ends["x"] = None
                check_same(self, inputs, {"b": 1, "a": 0} if "a" in inputs else {"x": 3})
                self.assertNotEqual(outcome(work, inputs, n)[1], ends)

    def test_the_name_stands_in_the_file(self):
        self.assertEqual(outcome.__module__, "leastcode.outcomes")


if __name__ == "__main__":
    unittest.main()
