"""The examples of the document for errors, sums, works and texts of works, as written there."""

import unittest

from helping import check_session

STAGE_1 = r"""
>>> from leastcode.sums import Sum
>>> [str(Sum((2, ("a",)), (-3, ("b",)), (1, ()))), Sum.read("a * a - b").terms, Sum.read("a * b - 1").total({"a": 5, "b": 7}, 10)]
['2 * a - 3 * b + 1', ((1, ('a', 'a')), (-1, ('b',))), 4]
>>> Sum((1, ("a",)), (2, ("B",)))
raises BadSum(1)
>>> from leastcode.works import Let, Tell, Work
>>> body = [Tell("a"), Let("c", Sum.read("a + b")), Let("a", Sum.read("b")), Let("b", Sum.read("c"))]
>>> pairs = Work([], body, given=["a", "b"], results=["a"], modulus=1000)
>>> [str(pairs.loop[1]), pairs.loop[1].uses, pairs.names, pairs.room, pairs.is_flat, len(pairs.straight(3))]
['c = a + b', ('a', 'b'), ('a', 'b', 'c'), 3, False, 12]
>>> Work([], [Tell("x")])
raises Unmade(('loop', 0), 'x')
>>> Work([], [], fixed={"c": (1000, 1)}, modulus=1000)
raises BadInput('c')
>>> from leastcode.worktexts import read_work, show_work
>>> show_work(pairs)
'modulus 1000\ngiven a b\nresults a\nloop\ntell a\nc = a + b\na = b\nb = c\nend'
>>> read_work('modulus 97\nloop\nx = 1 * y\nend')
raises BadText(2, 3)
"""


class Examples(unittest.TestCase):
    def test_stage_1(self):
        check_session(self, STAGE_1)

    def test_texts_of_sums(self):
        from leastcode.sums import Sum
        for text in ("2 * a - 3 * b + 1", "-1 * a * a", "a - 1", "0"):
            self.assertEqual(str(Sum.read(text)), text)


if __name__ == "__main__":
    unittest.main()
