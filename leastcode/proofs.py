"""Proofs: a code, the row of its prices, and a paper that shows that no prices are less."""

from leastcode.codelook import shows_code
from leastcode.coding import code_for
from leastcode.looker import shows_row
from leastcode.papers import paper
from leastcode.tables import USUAL_MOST, row


def proof(task, most=USUAL_MOST):
    """The code, the row and the paper of a task."""
    return code_for(task, most), row(task, most), paper(task, most)


def shows_proof(task, value):
    """Whether any value is a code, a row and a paper of this task, which show that the code is right and least."""
    if not isinstance(value, tuple) or len(value) != 3:
        return False
    code, prices, leaf = value
    return shows_code(task, prices, code) and shows_row(task, prices, leaf)
