"""The examples of the document, as written there."""

import unittest

from helping import check_session

STAGE_1 = r"""
>>> from leastcode.sums import Sum
>>> [str(Sum((2, ("a",)), (-3, ("b",)), (1, ()))), Sum.read("a * a - b").terms, Sum.read("a * b - 1").total({"a": 5, "b": 7}, 10)]
['2 * a - 3 * b + 1', ((1, ('a', 'a')), (-1, ('b',))), 4]
>>> Sum((1, ("a",)), (2, ("B",)))
raises BadSum(1)
>>> from leastcode.works import Let, Tell, Work
>>> body = [Tell("a"), Let("c", Sum.read("a + b")), Let("a", Sum.read("b")), Let("b", Sum.read("c"))]
>>> pairs = Work([], body, given=["a", "b"], results=["a"], modulus=1000)
>>> [str(pairs.loop[1]), pairs.loop[1].uses, pairs.names, pairs.room, pairs.is_flat, len(pairs.straight(3))]
['c = a + b', ('a', 'b'), ('a', 'b', 'c'), 3, False, 12]
>>> Work([], [Tell("x")])
raises Unmade(('loop', 0), 'x')
>>> Work([], [], fixed={"c": (1000, 1)}, modulus=1000)
raises BadInput('c')
>>> from leastcode.worktexts import read_work, show_work
>>> show_work(pairs)
'modulus 1000\ngiven a b\nresults a\nloop\ntell a\nc = a + b\na = b\nb = c\nend'
>>> read_work('modulus 97\nloop\nx = 1 * y\nend')
raises BadText(2, 3)
"""


OUTCOMES = r"""
>>> from leastcode.outcomes import outcome
>>> outcome(pairs, {"a": 0, "b": 1}, 10)
((0, 1, 1, 2, 3, 5, 8, 13, 21, 34), {'a': 55})
>>> twice = Work([], [Let("x", Sum.read("2 * x + 1"))], given=["x"], results=["x"], modulus=1000)
>>> [twice.is_flat, outcome(twice, {"x": 0}, 10), outcome(twice, {"x": 999}, 10 ** 30)]
[True, ((), {'x': 23}), ((), {'x': 999})]
"""

STAGE_2 = r"""
>>> from leastcode.tables import row, table, table_to_go, turn, turn_to_go
>>> from leastcode.tasks import Task
>>> job = Task(pairs, 3)
>>> [turn(job), turn_to_go(job), table_to_go(job, 7)["a / b"], table_to_go(job, 1)["- / a b"], str(row(job))]
[(1, 1, 0), (1, 1, 0), 2, 3, '0 | 3 + 0']
"""

# The document shows a paper together with what looks at it.
PAPERS = r"""
>>> from leastcode.papers import paper
>>> leaf = paper(job)
>>> [leaf[0], sorted(leaf[3][0][3])[:2], leaf[4][0]["- / a b"][0]]
[(1, 1, 0), ['- / a b', 'a / a b'], 3]
"""


class Examples(unittest.TestCase):
    def test_stage_1(self):
        check_session(self, STAGE_1)

    def test_outcomes(self):
        check_session(self, STAGE_1 + OUTCOMES)

    def test_stage_2(self):
        check_session(self, STAGE_1 + STAGE_2)

    def test_papers(self):
        check_session(self, STAGE_1 + STAGE_2 + PAPERS)

    def test_text_of_a_row(self):
        from leastcode.rows import Row
        self.assertEqual(str(Row([0, 3, 3], 2, 0)), "0 | 3 + 0")

    def test_texts_of_standings(self):
        from leastcode.standings import standing_text
        self.assertEqual(standing_text((("a", "c"), ("a", "b"))), "a c / a b")
        self.assertEqual(standing_text(((), ("a",))), "- / a")

    def test_texts_of_sums(self):
        from leastcode.sums import Sum
        for text in ("2 * a - 3 * b + 1", "-1 * a * a", "a - 1", "0"):
            self.assertEqual(str(Sum.read(text)), text)


if __name__ == "__main__":
    unittest.main()
