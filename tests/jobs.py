"""Tasks that several tests use."""

from leastcode.prices import Prices
from leastcode.tasks import Task
from leastcode.worktexts import read_work


def work_of(rows, modulus=1000):
    """The work with these lines of its text, with semicolons between."""
    return read_work("\n".join([f"modulus {modulus}", *rows.split("; ")]))


def job():
    """The task of the examples."""
    return Task(work_of("given a b; results a; loop; tell a; c = a + b; a = b; b = c; end"), 3)


# Tasks with their turns, their turns to go, and the texts of their rows.
TURNS = [
    (job(), (1, 1, 0), (1, 1, 0), "0 | 3 + 0"),
    (Task(work_of("given a b c d; loop; tell d; tell d; tell a; tell b; tell c; end"), 3, Prices(2, 0, {"d": 3})),
     (5, 1, 3), (5, 1, 3), "0 9 11 13 17 | 19 + 3"),
    (Task(work_of("given a b c d e; loop; tell e c; tell e; tell a; tell b; end"), 3, Prices(1, 9)),
     (1, 2, 3), (20, 2, 3), "0 | 4 5 + 3"),
    (Task(work_of("given a b c d e; loop; tell a; tell b c; tell e c; tell e; tell c; tell d; d = d; end"), 3,
          Prices(9, 7, {"c": 7, "d": 2, "e": 2})),
     (2, 3, 58), (14, 3, 58), "0 29 | 40 60 80 + 58"),
    (Task(work_of("given a; fixed k 1 5; results a k; tell k; loop; end; tell a"), 1, Prices(2, 3)),
     (0, 1, 0), (1, 1, 0), "| 10 + 0"),
]

# Tasks with lines in all parts, with fixed names that are results, values that nobody needs, and little room.
FULL = [
    Task(work_of("given a b; fixed k 5 2; results a r; r = a + 1; tell k; loop; x = a; y = x + b; tell y; a = y; end; "
                 "tell r; r = k"), 3, Prices(3, 1, {"k": 1})),
    Task(work_of("given a; fixed k 5 1; results a k; loop; a = 2 * a; x = k; end"), 2, Prices(4, 2)),
    Task(work_of("given a; fixed k 5 9; fixed l 6 3; results k l; tell k; loop; tell l; a = a; tell a; end"), 1,
         Prices(1, 1)),
    Task(work_of("x = 1; x = x * x; loop; y = x; y = 2; end; x = 3"), 2),
]
