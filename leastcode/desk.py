"""A desk that answers lines about one task."""

from leastcode.coding import code_for
from leastcode.errors import BadInput, BadLine, LeastError
from leastcode.kinds import decimal, is_decimal
from leastcode.machine import run
from leastcode.outcomes import outcome
from leastcode.prices import Prices
from leastcode.tables import row, turn_to_go
from leastcode.tasks import Task
from leastcode.worktexts import read_work, show_work

MOST_DIGITS = 30

# For each first word but work how many digits each further word has at most, and whether more of them may follow.
FORMS = {
    "slots": ((1,), False), "prices": ((1, 1), False), "show": ((), False), "row": ((), False), "turn": ((), False),
    "price": ((30,), False), "tell": ((30,), True), "run": ((30,), True),
}


def check_line(line):
    """Raise BadLine with the first word that cannot stand, or with the number of the words if one is missing."""
    if not isinstance(line, str):
        raise BadLine(0)
    words = line.split(" ")
    if words[0] == "work":
        # What stands behind the first space is a text, whatever its words are.
        if len(words) == 1:
            raise BadLine(1)
    elif words[0] in FORMS:
        check_words(words)
    else:
        raise BadLine(0)


def check_words(words):
    """Raise BadLine as check_line for the words of a line with numbers behind the first word."""
    digits, more = FORMS[words[0]]
    for at, word in enumerate(words[1:]):
        if at >= len(digits) and not more:
            raise BadLine(at + 1)
        if not is_decimal(word, digits[at] if at < len(digits) else MOST_DIGITS):
            raise BadLine(at + 1)
    if len(words) <= len(digits):
        raise BadLine(len(words))


def numbers_text(numbers):
    """The numbers with spaces between, or - for none."""
    return " ".join([decimal(number) for number in numbers]) if numbers else "-"


def said_text(told, ends):
    """The text of told values and of the values of the results."""
    return f"{numbers_text(told)} / {numbers_text([ends[name] for name in sorted(ends)])}"


def inputs_of(work, numbers):
    """The inputs with these values, by the given names."""
    if len(numbers) != len(work.given):
        raise BadInput(None)
    return dict(zip(work.given, numbers))


def price_of_run(task, ran):
    """The price of what a run did."""
    prices = task.prices
    fixed = task.work.fixed
    whole = sum([many * prices.store for many in ran.store_counts])
    for at, name in enumerate(task.work.names):
        whole = whole + ran.load_counts[at] * prices.load_of(name)
        if name in fixed:
            whole = whole + ran.set_counts[at] * fixed[name][1]
    return whole


class Desk:
    """Answers lines about one task, which lines can change."""

    def __init__(self):
        self.task = None

    def run(self, *lines):
        """The answers to some lines, one after another."""
        return [self.say(line) for line in lines]

    def say(self, line):
        """The answer to a line."""
        check_line(line)
        word, _, text = line.partition(" ")
        if word != "work" and self.task is None:
            return "no work"
        try:
            if word == "work":
                return self.take_work(text)
            return self.answer(word, [int(digits) for digits in text.split(" ") if digits])
        except LeastError as error:
            return f"refused {error.__class__.__name__}"

    def take_work(self, text):
        """Take a new work."""
        work = read_work(text.replace(" ; ", "\n"))
        self.task = Task(work, work.room)
        return "ok"

    def answer(self, word, numbers):
        """The answer to a line with this first word and these numbers."""
        task = self.task
        if word == "slots":
            self.task = Task(task.work, numbers[0], task.prices)
            return "ok"
        if word == "prices":
            self.task = Task(task.work, task.slots, Prices(numbers[0], numbers[1]))
            return "ok"
        if word == "show":
            return show_work(task.work).replace("\n", " ; ")
        if word == "row":
            return str(row(task))
        if word == "turn":
            return numbers_text(turn_to_go(task))
        if word == "price":
            return decimal(row(task)[numbers[0]])
        inputs = inputs_of(task.work, numbers[1:])
        if word == "tell":
            told, ends = outcome(task.work, inputs, numbers[0])
            return said_text(told, ends)
        ran = run(code_for(task), inputs, numbers[0])
        return f"{said_text(ran.told, ran.ends)} / {decimal(price_of_run(task, ran))}"
