"""The words of the text of a code, line by line, and the code that such words tell."""

from leastcode.codes import Code
from leastcode.errors import BadText
from leastcode.kinds import decimal, integer_of
from leastcode.sumwords import sum_words

INSTRUCTIONS = ("load", "store", "set", "let", "tell")


def code_rows(code):
    """The words of the lines of the text of a code."""
    rows = [["registers", decimal(code.registers)], ["modulus", decimal(code.modulus)], name_row("names", code.names)]
    constants = code.constants
    for cell in sorted(constants):
        rows.append(["constant", decimal(cell), decimal(constants[cell])])
    rows = rows + [name_row("inputs", code.inputs), name_row("results", code.results)]
    rows = rows + [["stages", decimal(code.first), decimal(code.period)], ["rise", decimal(code.rise)]]
    for held, stored in code.holdings:
        rows.append(["holding", *["-" if name is None else name for name in held], *name_row("/", stored)])
    for instructions, label in code.begins:
        rows.append(["begin", label_word(label)])
        rows.extend([instruction_words(instruction) for instruction in instructions])
    blocks = code.blocks
    costs = code.costs
    for key in sorted(blocks):
        instructions, behind = blocks[key]
        rows.append(["block", decimal(key[0]), decimal(key[1]), decimal(costs[key]), label_word(behind)])
        rows.extend([instruction_words(instruction) for instruction in instructions])
    return rows


def name_row(word, names):
    """A word and the names behind it, - for none."""
    return [word, *(names if names else ["-"])]


def label_word(label):
    """The word of a label."""
    return "-" if label is None else decimal(label)


def instruction_words(instruction):
    """The words of an instruction."""
    word = instruction[0]
    if word == "tell":
        return [word, *[decimal(register) for register in instruction[1]]]
    _, one, other = instruction
    if word != "let":
        return [word, decimal(one), decimal(other)]
    return [word, decimal(one), *sum_words([(factor, [f"r{at}" for at in used]) for factor, used in other])]


class Rows:
    """Lines of words that are taken one after another; what cannot be taken is refused."""

    def __init__(self, rows):
        self.rows = rows
        self.at = 0

    def has(self, word):
        """Whether the next line has this word first."""
        return self.at < len(self.rows) and self.rows[self.at][0] == word

    def take(self, word):
        """The words behind the first one, which must be this word, of the next line."""
        if not self.has(word):
            raise BadText(0, 0)
        self.at = self.at + 1
        return self.rows[self.at - 1][1:]

    def take_numbers(self, word, many):
        """The numbers behind the word of the next line, as many as told."""
        words = self.take(word)
        if len(words) != many:
            raise BadText(0, 0)
        return [number_of(digits) for digits in words]

    def take_names(self, word):
        """The names behind the word of the next line."""
        return names_of(self.take(word))

    def take_instructions(self):
        """The instructions of the next lines."""
        found = []
        while self.at < len(self.rows) and self.rows[self.at][0] in INSTRUCTIONS:
            found.append(instruction_of(self.rows[self.at]))
            self.at = self.at + 1
        return tuple(found)


def number_of(word):
    """The integer that a word tells."""
    number = integer_of(word)
    if number is None:
        raise BadText(0, 0)
    return number


def label_of(word):
    """The label that a word tells."""
    return None if word == "-" else number_of(word)


def names_of(words):
    """The names that some words tell, none for a single -."""
    return () if words == ["-"] else tuple(words)


def instruction_of(words):
    """The instruction that some words tell."""
    if words[0] == "let" and len(words) > 2:
        return "let", number_of(words[1]), terms_of_registers(words[2:])
    numbers = [number_of(word) for word in words[1:]]
    return (words[0], tuple(numbers)) if words[0] == "tell" else (words[0], *numbers)


def terms_of_registers(words):
    """The terms of a sum of registers that some words tell."""
    terms = []
    sign = 1
    start = 0
    for at, word in enumerate(words):
        if word in ("+", "-"):
            terms.append(term_of_registers(words[start:at], sign))
            sign = -1 if word == "-" else 1
            start = at + 1
    return (*terms, term_of_registers(words[start:], sign))


def term_of_registers(words, sign):
    """The term of a sum of registers that some words tell, behind this sign."""
    factor = sign
    used = []
    # Between these words stand the signs of multiplication.
    for word in words[::2]:
        if word.startswith("r"):
            used.append(number_of(word[1:]))
        else:
            factor = factor * number_of(word)
    return factor, tuple(used)


def code_of_rows(rows):
    """The code that some lines of words tell; more lines than those of a text of a code may be taken."""
    left = Rows(rows)
    registers, = left.take_numbers("registers", 1)
    modulus, = left.take_numbers("modulus", 1)
    names = left.take_names("names")
    constants = {}
    while left.has("constant"):
        cell, constant = left.take_numbers("constant", 2)
        constants[cell] = constant
    inputs = left.take_names("inputs")
    results = left.take_names("results")
    first, period = left.take_numbers("stages", 2)
    rise, = left.take_numbers("rise", 1)
    holdings = take_holdings(left)
    begins = []
    while left.has("begin"):
        label = take_label(left)
        begins.append((left.take_instructions(), label))
    blocks, costs = take_blocks(left)
    if left.at < len(rows):
        raise BadText(0, 0)
    return Code(registers, names, modulus, constants, inputs, results, first, period, tuple(begins), blocks, holdings,
                costs, rise)


def take_holdings(left):
    """The holdings of the next lines."""
    found = []
    while left.has("holding"):
        words = left.take("holding")
        if "/" not in words:
            raise BadText(0, 0)
        at = words.index("/")
        held = tuple([None if word == "-" else word for word in words[:at]])
        found.append((held, names_of(words[at + 1:])))
    return tuple(found)


def take_label(left):
    """The label behind the word of a begin."""
    words = left.take("begin")
    if len(words) != 1:
        raise BadText(0, 0)
    return label_of(words[0])


def take_blocks(left):
    """The blocks of the next lines, and their costs."""
    blocks = {}
    costs = {}
    while left.has("block"):
        words = left.take("block")
        if len(words) != 4:
            raise BadText(0, 0)
        label, stage, cost = [number_of(word) for word in words[:3]]
        costs[label, stage] = cost
        blocks[label, stage] = (left.take_instructions(), label_of(words[3]))
    return blocks, costs
