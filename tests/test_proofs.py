import copy
import random
import unittest

from leastcode.codelook import shows_code
from leastcode.coding import code_for
from leastcode.errors import TooMany
from leastcode.looker import shows_row
from leastcode.papers import paper
from leastcode.prices import Prices
from leastcode.proofs import proof, shows_proof
from leastcode.rows import Row
from leastcode.tables import row, turn, turn_to_go
from leastcode.tasks import Task
from helping import ODD_VALUES, check_raises, check_same
from handmade import code_with, parts_of, small_code, small_row, small_task, with_later_first, with_twice_the_period
from jobs import FULL, TURNS, job, work_of
from plain import draw_task
from test_coding import LARGE
from test_looker import longer, parts_of as paper_parts, raised

TASKS = [task for task, *_ in TURNS] + FULL + [small_task()]


class Proofs(unittest.TestCase):
    def test_the_three_parts(self):
        for task in TASKS:
            found = proof(task)
            self.assertIs(type(found), tuple)
            code, told, leaf = found
            self.assertEqual((code, told, leaf), (code_for(task), row(task), paper(task)))
            self.assertIs(shows_proof(task, found), True)
        self.assertEqual(proof(most=120, task=job()), proof(job()))

    def test_drawn_tasks(self):
        for seed in range(80):
            task = draw_task(random.Random(seed), "abcd" if seed % 4 else "abcde", 4)
            self.assertIs(shows_proof(task, proof(task)), True)

    def test_what_is_raised_and_in_which_order(self):
        for task in TASKS + [draw_task(random.Random(seed), "abcd", 4) for seed in range(60)]:
            start, period, _ = turn_to_go(task)
            late = start + period
            other, gap, _ = turn(task)
            for most in {1, late - 1, late, other + gap - 1, other + gap, max(late, other + gap)} - {0}:
                if most < late or most < other + gap:
                    check_raises(self, TooMany(most), proof, task, most)
                else:
                    self.assertIs(shows_proof(task, proof(task, most)), True)

    def test_the_code_is_made_first(self):
        # The turn to go has too many numbers, and the turn of the tables comes later than most.
        work = work_of("given a b c d e; loop; tell e c; tell e; tell a; tell b; end")
        task = Task(work, 3, Prices(1, 9))
        self.assertEqual((turn(task), turn_to_go(task)), ((1, 2, 3), (20, 2, 3)))
        check_raises(self, TooMany(21), proof, task, 21)
        for task, many in LARGE:
            if many > 3000:
                check_raises(self, TooMany(3000), proof, task)
            else:
                self.assertIs(shows_proof(task, proof(task)), True)


class Shown(unittest.TestCase):
    def check(self, task, value, wanted):
        self.assertIs(shows_proof(task, value), wanted)

    def test_equal_tasks(self):
        for task in TASKS:
            other = copy.deepcopy(task)
            self.assertEqual(task, other)
            self.check(other, proof(task), True)
        self.assertIs(shows_proof(value=proof(job()), task=job()), True)

    def test_proofs_by_hand(self):
        task = small_task()
        self.check(task, (small_code(), small_row(), paper(task)), True)
        self.check(task, (with_twice_the_period(small_code()), Row([0, 6, 6], 1, 0), paper(task)), True)

    def test_other_codes_and_papers_of_the_same(self):
        for task in TASKS[:3] + FULL:
            code, told, leaf = proof(task)
            start, gap, _ = leaf[0]
            for other in (code, with_twice_the_period(code), with_later_first(code)):
                for new in (leaf, longer(leaf, start, 2 * gap), longer(leaf, start + 1, gap)):
                    self.check(task, (other, told, new), True)

    def test_other_works_prices_and_slots(self):
        task = small_task()
        works = [task.work ** 2, task.work.unrolled(1), task.work.renamed({"a": "b"}),
                 work_of("given a; fixed k 5 2; results a; loop; a = a + k; tell k; end"),
                 work_of("given a; fixed k 6 2; results a; loop; a = a + k; tell a; end"),
                 work_of("given a; fixed k 5 3; results a; loop; a = a + k; tell a; end"),
                 work_of("given a; fixed k 5 2; loop; a = a + k; tell a; end")]
        others = [Task(work, 2, task.prices) for work in works] + [Task(task.work, 3, task.prices), Task(task.work, 2),
                                                                   Task(task.work, 2, Prices(3, 2))]
        for other in others:
            self.check(other, proof(task), False)
            self.check(task, proof(other), False)
            self.check(other, proof(other), True)

    def test_parts_exchanged(self):
        one, other = job(), Task(job().work, 4, Prices(2, 1))
        for at in range(3):
            value = list(proof(one))
            value[at] = proof(other)[at]
            self.check(one, tuple(value), False)
        code, told, leaf = proof(one)
        for value in ((told, code, leaf), (code, leaf, told), (leaf, told, code), (code, told, leaf, None), (code, told), (code,),
                      (code, told, leaf, leaf), [code, told, leaf], ((code, told, leaf),), {"code": code, "row": told}, None,
                      (code, told, list(leaf)), (None, told, leaf), (code, None, leaf), (code, told, None)):
            self.check(one, value, False)

    def test_one_number_otherwise(self):
        for task in [job(), small_task(), FULL[0]]:
            code, told, leaf = proof(task)
            for key in sorted(code.costs):
                self.check(task, (code_with(code, costs={**code.costs, key: code.costs[key] + 1}), told, leaf), False)
            self.check(task, (code_with(code, rise=code.rise + 1), told, leaf), False)
            for at in range(len(told.numbers)):
                numbers = list(told.numbers)
                numbers[at] += 1
                self.check(task, (code, Row(numbers, told.period, told.step), leaf), False)
            for part in range(1, 5):
                parts = paper_parts(leaf)
                tables = parts[part] if part != 3 else parts[part][0]
                tables[-1] = raised(tables[-1], 1)
                self.check(task, (code, told, tuple(parts)), False)

    def test_both_are_asked(self):
        task = small_task()
        dear = code_with(small_code(), begins=(((("load", 0, 0),), None), ((), 0), ((), 0)))
        told = Row([3, 6], 1, 0)
        self.assertIs(shows_code(task, told, dear), True)
        self.assertIs(shows_row(task, told, paper(task)), False)
        self.check(task, (dear, told, paper(task)), False)
        self.assertIs(shows_row(task, small_row(), paper(task)), True)
        self.check(task, (dear, small_row(), paper(task)), False)

    def test_values_that_are_none(self):
        task = job()
        for value in [*ODD_VALUES, 10 ** 60, task, paper(task), code_for(task), row(task), [proof(task)], (proof(task),) * 3]:
            self.check(task, value, False)
            for at in range(3):
                parts = list(proof(task))
                parts[at] = value
                self.check(task, tuple(parts), type(value) is type(proof(task)[at]) and value == proof(task)[at])

    def test_nothing_is_changed(self):
        for task in TASKS[:4]:
            value = proof(task)
            before = copy.deepcopy((parts_of(value[0]), value[2]))
            self.check(task, value, True)
            self.check(task, (value[0], Row([5], 1, 5), value[2]), False)
            check_same(self, (parts_of(value[0]), value[2]), before)
            self.assertEqual(value[1], row(task))

    def test_the_names_stand_in_the_file(self):
        self.assertEqual((proof.__module__, shows_proof.__module__), ("leastcode.proofs",) * 2)


if __name__ == "__main__":
    unittest.main()
