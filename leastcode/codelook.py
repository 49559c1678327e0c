"""Looks at codes: whether they are right for a work, and have the prices of a row. It searches and runs nothing."""

from leastcode.codes import Code
from leastcode.errors import BadCode
from leastcode.readings import Reading
from leastcode.rows import Row


def fault_of(work, code):
    """None if a code is right for a work, otherwise the first fault: (label, stage, index, word)."""
    part = other_part(work, code)
    if part is not None:
        raise BadCode(part)
    holdings = code.holdings
    blocks = code.blocks
    for stage, (instructions, label) in enumerate(code.begins):
        holding = ((None,) * code.registers, work.given)
        lines = work.ahead if stage > 0 else work.ahead + work.behind
        fault = section_fault(work, Reading(work.names, holding, lines), instructions, label, holdings)
        if fault is not None:
            return (None, stage, *fault)
    for label, stage in sorted(blocks):
        instructions, behind = blocks[label, stage]
        lines = work.loop if stage > 1 else work.loop + work.behind
        fault = section_fault(work, Reading(work.names, holdings[label], lines), instructions, behind, holdings)
        if fault is not None:
            return (label, stage, *fault)
    return None


def section_fault(work, reading, instructions, label, holdings):
    """The index and the word of the first fault of a begin or block that leads to this label, or None."""
    fault = reading.read_all(instructions)
    if fault is not None:
        return fault
    if label is None:
        return None if reading.has_stored(work.results) else (len(instructions), "results")
    return None if reading.covers(holdings[label]) else (len(instructions), "holding")


def other_part(work, code):
    """The name of the first part of a code that is not the work's, or None."""
    constants = {work.names.index(name): pair[0] for name, pair in work.fixed.items()}
    if code.names != work.names:
        return "names"
    if code.modulus != work.modulus:
        return "modulus"
    if code.constants != constants:
        return "constants"
    if code.inputs != work.given:
        return "inputs"
    return None if code.results == work.results else "results"


def shows_code(task, row, code):
    """Whether any two values are a row and a code that is right for the task and has the prices of the row."""
    if not isinstance(row, Row) or not isinstance(code, Code):
        return False
    work = task.work
    if code.registers != task.slots or other_part(work, code) is not None or fault_of(work, code) is not None:
        return False
    prices = cell_prices(task)
    if not costs_fit(code, prices) or not has_prices(row, code, prices):
        return False
    # From the first stage on that comes round both go on in the same way.
    period = row.period
    return (row.start <= code.first and code.period % period == 0
            and code.rise == code.period // period * row.step)


def cell_prices(task):
    """The prices of the instructions by their words: for each a list by the cells."""
    names = task.work.names
    fixed = task.work.fixed
    prices = task.prices
    return {"load": [prices.load_of(name) for name in names], "store": [prices.store] * len(names),
            "set": [fixed[name][1] if name in fixed else 0 for name in names]}


def price_of_all(instructions, prices):
    """The price of some instructions."""
    whole = 0
    for instruction in instructions:
        word = instruction[0]
        if word in prices:
            whole = whole + prices[word][instruction[1] if word == "store" else instruction[2]]
    return whole


def costs_fit(code, prices):
    """Whether the costs of the blocks and the rise fit with the prices."""
    costs = code.costs
    first = code.first
    last = first + code.period - 1
    for (label, stage), (instructions, behind) in code.blocks.items():
        cost = costs[label, stage]
        price = price_of_all(instructions, prices)
        if cost != price + (costs[behind, stage - 1] if stage > 1 else 0):
            return False
        if stage == first and cost + code.rise != price + costs[behind, last]:
            return False
    return True


def has_prices(row, code, prices):
    """Whether the prices of the code for the numbers of rounds up to the last stage are those of the row."""
    costs = code.costs
    for stage, (instructions, label) in enumerate(code.begins):
        price = price_of_all(instructions, prices)
        if row[stage] != price + (costs[label, stage] if stage > 0 else 0):
            return False
    return True
