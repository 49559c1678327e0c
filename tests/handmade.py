"""A work and codes by hand that several tests use."""

from leastcode.codes import Code
from leastcode.prices import Prices
from leastcode.rows import Row
from leastcode.tasks import Task
from jobs import work_of

PARAMETERS = ("registers", "names", "modulus", "constants", "inputs", "results", "first", "period", "begins", "blocks",
              "holdings", "costs", "rise")

LOAD, SET, STORE, TELL = ("load", 0, 0), ("set", 1, 1), ("store", 0, 0), ("tell", (0,))
ADD = ("let", 0, ((1, (0,)), (1, (1,))))


def small_task():
    """One given name, one constant, two slots; loading costs 3, storing 1, the constant 2."""
    return Task(work_of("given a; fixed k 5 2; results a; loop; a = a + k; tell a; end"), 2, Prices(3, 1))


def small_row():
    return Row([0, 6], 1, 0)


def small_parts():
    """The parts of a code for the small task: label 0 has nothing in registers, label 1 both names."""
    return {
        "registers": 2, "names": ("a", "k"), "modulus": 1000, "constants": {1: 5}, "inputs": ("a",), "results": ("a",),
        "first": 2, "period": 1, "begins": (((), None), ((), 0), ((), 0)),
        "blocks": {(0, 1): ((LOAD, SET, ADD, TELL, STORE), None), (0, 2): ((LOAD, SET, ADD, TELL), 1),
                   (1, 1): ((ADD, TELL, STORE), None), (1, 2): ((ADD, TELL), 1)},
        "holdings": (((None, None), ("a",)), (("a", "k"), ())),
        "costs": {(0, 1): 6, (0, 2): 6, (1, 1): 1, (1, 2): 1}, "rise": 0,
    }


def small_code(**others):
    """The code for the small task, with other parts."""
    return Code(**{**small_parts(), **others})


def parts_of(code):
    """The parts of a code by their names."""
    return {name: getattr(code, name) for name in PARAMETERS}


def code_with(code, **others):
    """A code with other parts."""
    return Code(**{**parts_of(code), **others})


def relabelled(code, labels):
    """A code with its labels exchanged by a dict."""
    def named(section):
        return section[0], None if section[1] is None else labels[section[1]]
    holdings = [None] * len(code.holdings)
    for label, holding in enumerate(code.holdings):
        holdings[labels[label]] = holding
    return code_with(
        code, begins=tuple(named(begin) for begin in code.begins),
        blocks={(labels[label], stage): named(block) for (label, stage), block in code.blocks.items()},
        holdings=tuple(holdings), costs={(labels[label], stage): cost for (label, stage), cost in code.costs.items()})


def with_registers(code, new):
    """A code with its registers exchanged, new being a list."""
    def instruction(old):
        word = old[0]
        if word == "tell":
            return word, tuple(new[register] for register in old[1])
        if word == "store":
            return word, old[1], new[old[2]]
        if word == "let":
            return word, new[old[1]], tuple((factor, tuple(new[at] for at in used)) for factor, used in old[2])
        return word, new[old[1]], old[2]

    def section(old):
        return tuple(instruction(one) for one in old[0]), old[1]

    def holding(old):
        held = [None] * len(new)
        for at, name in enumerate(old[0]):
            held[new[at]] = name
        return tuple(held), old[1]
    return code_with(code, begins=tuple(section(begin) for begin in code.begins),
                     blocks={key: section(block) for key, block in code.blocks.items()},
                     holdings=tuple(holding(old) for old in code.holdings))


def with_twice_the_period(code):
    """A code with twice the period, which does the same."""
    first, period = code.first, code.period
    blocks, costs = code.blocks, code.costs
    more_blocks = {(label, stage + period): block for (label, stage), block in blocks.items() if stage >= first}
    more_costs = {(label, stage + period): cost + code.rise for (label, stage), cost in costs.items() if stage >= first}
    return code_with(code, period=2 * period, begins=code.begins + code.begins[first:], blocks={**blocks, **more_blocks},
                     costs={**costs, **more_costs}, rise=2 * code.rise)


def with_later_first(code):
    """A code whose stages come round one later, which does the same."""
    first, period = code.first, code.period
    blocks, costs = code.blocks, code.costs
    more_blocks = {(label, first + period): block for (label, stage), block in blocks.items() if stage == first}
    more_costs = {(label, first + period): cost + code.rise for (label, stage), cost in costs.items() if stage == first}
    return code_with(code, first=first + 1, begins=code.begins + (code.begins[first],), blocks={**blocks, **more_blocks},
                     costs={**costs, **more_costs})
