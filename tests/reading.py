"""What the document says of codes, their readings, costs and runs, done plainly by an own hand."""

from leastcode.works import Let, Tell


def plain_stage(code, j):
    return j if j < code.first else code.first + (j - code.first) % code.period


def read_one(names, held, stored, lines, instruction):
    """Do an instruction on the holding and the lines that are left, or say why it cannot be read."""
    word = instruction[0]
    if word == "load":
        _, register, cell = instruction
        if names[cell] not in stored:
            return "unstored"
        held[register] = names[cell]
    elif word == "set":
        _, register, cell = instruction
        held[register] = names[cell]
    elif word == "store":
        _, cell, register = instruction
        if held[register] != names[cell]:
            return "unheld"
        stored.add(names[cell])
    elif word == "tell":
        if not lines or not isinstance(lines[0], Tell):
            return "line"
        if tuple(held[register] for register in instruction[1]) != lines.pop(0).names:
            return "names"
    else:
        _, register, terms = instruction
        if not lines or not isinstance(lines[0], Let):
            return "line"
        line = lines[0]
        if tuple((factor, tuple(held[at] for at in used)) for factor, used in terms) != line.value.terms:
            return "sum"
        if held[register] != line.name and register in [at for _, used in terms for at in used]:
            return "over"
        lines.pop(0)
        for at in range(len(held)):
            if held[at] == line.name:
                held[at] = None
        held[register] = line.name
        stored.discard(line.name)
    return None


def read_all(names, holding, lines, instructions):
    """The fault of some instructions, or None, and the holding behind them."""
    held, stored, lines = list(holding[0]), set(holding[1]), list(lines)
    for at, instruction in enumerate(instructions):
        word = read_one(names, held, stored, lines, instruction)
        if word is not None:
            return (at, word), None
    return ((len(instructions), "lines") if lines else None), (held, stored)


def end_fault(work, code, found, label):
    """The word of what is wrong at the end of a begin or block, or None."""
    held, stored = found
    if label is None:
        return None if set(work.results) <= stored else "results"
    wanted, cells = code.holdings[label]
    same = all(want is None or want == have for want, have in zip(wanted, held))
    return None if same and set(cells) <= stored else "holding"


def plain_fault(work, code):
    """The first fault of a code whose parts are those of the work, or None."""
    start = ((None,) * code.registers, work.given)
    sections = []
    for stage, (instructions, label) in enumerate(code.begins):
        lines = work.ahead + (work.behind if stage == 0 else ())
        sections.append((None, stage, start, lines, instructions, label))
    for own, stage in sorted(code.blocks):
        instructions, label = code.blocks[own, stage]
        lines = work.loop + (work.behind if stage == 1 else ())
        sections.append((own, stage, code.holdings[own], lines, instructions, label))
    for own, stage, holding, lines, instructions, label in sections:
        fault, found = read_all(work.names, holding, lines, instructions)
        if fault is None:
            word = end_fault(work, code, found, label)
            fault = None if word is None else (len(instructions), word)
        if fault is not None:
            return (own, stage, *fault)
    return None


def lacking(code):
    """The blocks that are wanted and lacking."""
    wanted = [(label, stage) for stage, (_, label) in enumerate(code.begins) if stage > 0]
    for (_, stage), (_, label) in code.blocks.items():
        if stage > 1:
            wanted.append((label, stage - 1))
        if stage == code.first:
            wanted.append((label, code.first + code.period - 1))
    return [key for key in wanted if key not in code.blocks]


def plain_price(task, instructions):
    """The price of some instructions."""
    whole = 0
    for instruction in instructions:
        if instruction[0] == "load":
            whole += task.prices.load_of(task.work.names[instruction[2]])
        elif instruction[0] == "store":
            whole += task.prices.store
        elif instruction[0] == "set":
            whole += task.work.fixed[task.work.names[instruction[2]]][1]
    return whole


def unfit(task, code):
    """The keys of blocks whose costs do not fit."""
    found = []
    for (own, stage), (instructions, label) in code.blocks.items():
        price, cost = plain_price(task, instructions), code.costs[own, stage]
        if cost != price + (code.costs[label, stage - 1] if stage > 1 else 0):
            found.append((own, stage))
        elif stage == code.first and cost + code.rise != price + code.costs[label, code.first + code.period - 1]:
            found.append((own, stage))
    return found


def told_price(task, code, n):
    """The price of a code for n rounds, as its costs tell it."""
    stage = plain_stage(code, n)
    instructions, label = code.begins[stage]
    price = plain_price(task, instructions) + code.rise * ((n - stage) // code.period)
    return price + (code.costs[label, stage] if n > 0 else 0)


class PlainMachine:
    """The machine, one instruction after another."""

    def __init__(self, code, inputs):
        self.code = code
        self.registers = [0] * code.registers
        self.cells = [inputs.get(name, 0) if name in code.inputs else 0 for name in code.names]
        self.told = []
        self.counts = {word: [0] * len(code.names) for word in ("load", "store", "set")}

    def do(self, instruction):
        word, *parts = instruction
        if word == "load":
            self.registers[parts[0]] = self.cells[parts[1]]
            self.counts[word][parts[1]] += 1
        elif word == "store":
            self.cells[parts[0]] = self.registers[parts[1]]
            self.counts[word][parts[0]] += 1
        elif word == "set":
            self.registers[parts[0]] = self.code.constants[parts[1]]
            self.counts[word][parts[1]] += 1
        elif word == "let":
            whole = 0
            for factor, used in parts[1]:
                for register in used:
                    factor *= self.registers[register]
                whole += factor
            self.registers[parts[0]] = whole % self.code.modulus
        else:
            self.told += [self.registers[register] for register in parts[0]]


def plain_run(code, inputs, n):
    """What the machine tells and leaves, and its three counts; turns of many rounds, which tell nothing, are left out."""
    machine = PlainMachine(code, inputs)
    blocks = code.blocks
    instructions, label = code.begins[plain_stage(code, n)]
    for instruction in instructions:
        machine.do(instruction)
    seen = {}
    left = n
    while left > 0:
        if n > 2000 and left > 10 * code.period + code.first:
            state = (label, left % code.period, tuple(machine.registers), tuple(machine.cells))
            counts = {word: list(row) for word, row in machine.counts.items()}
            if state in seen:
                before, then = seen[state]
                turns = (left - code.first - code.period) // (before - left)
                for word, row in machine.counts.items():
                    machine.counts[word] = [now + turns * (now - old) for now, old in zip(row, then[word])]
                left -= turns * (before - left)
                seen = {}
            seen[state] = left, counts
        instructions, label = blocks[label, plain_stage(code, left)]
        for instruction in instructions:
            machine.do(instruction)
        left -= 1
    ends = {name: machine.cells[code.names.index(name)] for name in code.results}
    return (tuple(machine.told), ends, *[tuple(machine.counts[word]) for word in ("load", "store", "set")])
