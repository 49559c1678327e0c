"""The examples of the document, as written there."""

import unittest

from helping import check_session

STAGE_1 = r"""
>>> from leastcode.sums import Sum
>>> [str(Sum((2, ("a",)), (-3, ("b",)), (1, ()))), Sum.read("a * a - b").terms, Sum.read("a * b - 1").total({"a": 5, "b": 7}, 10)]
['2 * a - 3 * b + 1', ((1, ('a', 'a')), (-1, ('b',))), 4]
>>> Sum((1, ("a",)), (2, ("B",)))
raises BadSum(1)
>>> from leastcode.works import Let, Tell, Work
>>> body = [Tell("a"), Let("c", Sum.read("a + b")), Let("a", Sum.read("b")), Let("b", Sum.read("c"))]
>>> pairs = Work([], body, given=["a", "b"], results=["a"], modulus=1000)
>>> [str(pairs.loop[1]), pairs.loop[1].uses, pairs.names, pairs.room, pairs.is_flat, len(pairs.straight(3))]
['c = a + b', ('a', 'b'), ('a', 'b', 'c'), 3, False, 12]
>>> Work([], [Tell("x")])
raises Unmade(('loop', 0), 'x')
>>> Work([], [], fixed={"c": (1000, 1)}, modulus=1000)
raises BadInput('c')
>>> from leastcode.worktexts import read_work, show_work
>>> show_work(pairs)
'modulus 1000\ngiven a b\nresults a\nloop\ntell a\nc = a + b\na = b\nb = c\nend'
>>> read_work('modulus 97\nloop\nx = 1 * y\nend')
raises BadText(2, 3)
"""


OUTCOMES = r"""
>>> from leastcode.outcomes import outcome
>>> outcome(pairs, {"a": 0, "b": 1}, 10)
((0, 1, 1, 2, 3, 5, 8, 13, 21, 34), {'a': 55})
>>> twice = Work([], [Let("x", Sum.read("2 * x + 1"))], given=["x"], results=["x"], modulus=1000)
>>> [twice.is_flat, outcome(twice, {"x": 0}, 10), outcome(twice, {"x": 999}, 10 ** 30)]
[True, ((), {'x': 23}), ((), {'x': 999})]
"""

STAGE_2 = r"""
>>> from leastcode.tables import row, table, table_to_go, turn, turn_to_go
>>> from leastcode.tasks import Task
>>> job = Task(pairs, 3)
>>> [turn(job), turn_to_go(job), table_to_go(job, 7)["a / b"], table_to_go(job, 1)["- / a b"], str(row(job))]
[(1, 1, 0), (1, 1, 0), 2, 3, '0 | 3 + 0']
"""

STAGE_3 = r"""
>>> from leastcode.looker import shows_row
>>> from leastcode.papers import paper
>>> leaf = paper(job)
>>> [shows_row(job, row(job), leaf), leaf[0], sorted(leaf[3][0][3])[:2], leaf[4][0]["- / a b"][0]]
[True, (1, 1, 0), ['- / a b', 'a / a b'], 3]
>>> shows_row(job, row(Task(pairs, 4)), None)
False
"""

STAGE_4 = r"""
>>> from leastcode.coding import code_for
>>> from leastcode.machine import Ran, run
>>> code = code_for(job)
>>> run(code, {"a": 0, "b": 1}, 10) == Ran((0, 1, 1, 2, 3, 5, 8, 13, 21, 34), {"a": 55}, (1, 1, 0), (1, 0, 0), (0, 0, 0))
True
>>> from leastcode.codelook import fault_of, shows_code
>>> from leastcode.rows import Row
>>> [fault_of(pairs, code), shows_code(job, row(job), code), shows_code(job, Row([0, 2], 1, 0), code)]
[None, True, False]
>>> fault_of(pairs ** 2, code) is None
False
>>> from leastcode.codetexts import read_code, show_code
>>> [read_code(show_code(code)) == code, show_code(code).split("\n")[:3]]
[True, ['registers 3', 'modulus 1000', 'names a b c']]
"""

STAGE_5 = r"""
>>> from leastcode.desk import Desk
>>> from leastcode.proofs import proof, shows_proof
>>> [shows_proof(job, proof(job)), shows_proof(Task(pairs, 4), proof(job))]
[True, False]
>>> desk = Desk()
>>> desk.run("row", "work modulus 1000 ; given a b ; results a ; loop ; tell a ; c = a + b ; a = b ; b = c ; end", "row", "price 9", "tell 10 0 1", "run 10 0 1", "slots 2")
['no work', 'ok', '0 | 3 + 0', '3', '0 1 1 2 3 5 8 13 21 34 / 55', '0 1 1 2 3 5 8 13 21 34 / 55 / 3', 'refused NoRoom']
"""


class Examples(unittest.TestCase):
    def test_stage_1(self):
        check_session(self, STAGE_1)

    def test_outcomes(self):
        check_session(self, STAGE_1 + OUTCOMES)

    def test_stage_2(self):
        check_session(self, STAGE_1 + STAGE_2)

    def test_stage_3(self):
        check_session(self, STAGE_1 + STAGE_2 + STAGE_3)

    def test_stage_4(self):
        check_session(self, STAGE_1 + STAGE_2 + STAGE_4)

    def test_stage_5(self):
        check_session(self, STAGE_1 + STAGE_2 + STAGE_5)

    def test_a_code_of_longer_rings(self):
        from leastcode.coding import code_for
        from leastcode.prices import Prices
        from leastcode.tables import turn_to_go
        from leastcode.tasks import Task
        from leastcode.worktexts import read_work
        work = read_work("modulus 9\ngiven a b c d\nloop\ntell d\ntell d\ntell a\ntell b\ntell c\nend")
        task = Task(work, 3, Prices(2, 0, {"d": 3}))
        self.assertEqual(turn_to_go(task), (5, 1, 3))
        code = code_for(task)
        self.assertEqual((code.first, code.period, code.rise), (6, 1, 3))

    def test_text_of_a_row(self):
        from leastcode.rows import Row
        self.assertEqual(str(Row([0, 3, 3], 2, 0)), "0 | 3 + 0")

    def test_texts_of_standings(self):
        from leastcode.standings import code_of, texts_of
        codes = [code_of("abc", "ac", "ab"), code_of("abc", "", "a"), code_of("abc", "b", "")]
        self.assertEqual(texts_of("abc", codes), ["a c / a b", "- / a", "b / -"])

    def test_texts_of_sums(self):
        from leastcode.sums import Sum
        for text in ("2 * a - 3 * b + 1", "-1 * a * a", "a - 1", "0"):
            self.assertEqual(str(Sum.read(text)), text)


if __name__ == "__main__":
    unittest.main()
