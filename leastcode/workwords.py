"""The words of the text of a work: its first lines, and the parts of a work that a text tells."""

from leastcode.errors import BadText
from leastcode.kinds import is_decimal, is_name, is_within
from leastcode.sumwords import terms_of

LEAST_MODULUS = 2
MOST_MODULUS = 10 ** 18
MODULUS_DIGITS = 19
CONSTANT_DIGITS = 18
PRICE_DIGITS = 1
MOST_TOLD = 3
# A blank stands in no word, so no first word of a line is taken for this kind.
MAKING = "x ="


def head_rows(given, fixed, results, modulus):
    """The lines of the text of a work that stand ahead of those of its parts."""
    rows = [f"modulus {modulus}"]
    if given:
        rows.append(" ".join(["given", *given]))
    for name in sorted(fixed):
        constant, price = fixed[name]
        rows.append(f"fixed {name} {constant} {price}")
    if results:
        rows.append(" ".join(["results", *results]))
    return rows


def parts_of(text):
    """What a text tells: the three parts, given, fixed, results and modulus; raises BadText as read_work.

    A line of a part is a pair: the made name and the terms of its sum, or None and the told names.
    """
    if not isinstance(text, str):
        raise BadText(0, 0)
    rows = [row.split(" ") for row in text.split("\n")]
    modulus = modulus_of(rows)
    given, at = names_row(rows, 1, "given")
    fixed, at = fixed_rows(rows, at)
    results, at = names_row(rows, at, "results")
    ahead, at = line_rows(rows, at)
    loop, at = line_rows(rows, mark_row(rows, at, "loop"))
    behind, at = line_rows(rows, mark_row(rows, at, "end"))
    if at < len(rows):
        raise BadText(at, 0)
    return (ahead, loop, behind), given, fixed, results, modulus


def kind_at(rows, at):
    """What the row there is: MAKING, otherwise its first word; None behind all rows."""
    if at == len(rows):
        return None
    if len(rows[at]) > 1 and rows[at][1] == "=":
        return MAKING
    return rows[at][0]


def check_length(words, many, line):
    """Raise BadText if a row of so many words lacks one, or has one too many."""
    if len(words) < many:
        raise BadText(line, len(words))
    if len(words) > many:
        raise BadText(line, many)


def modulus_of(rows):
    """The modulus, which the first row tells."""
    words = rows[0]
    if kind_at(rows, 0) != "modulus":
        raise BadText(0, 0)
    if len(words) > 1 and not is_modulus_word(words[1]):
        raise BadText(0, 1)
    check_length(words, 2, 0)
    return int(words[1])


def is_modulus_word(word):
    """Whether a word is a modulus."""
    return is_decimal(word, MODULUS_DIGITS) and is_within(int(word), LEAST_MODULUS, MOST_MODULUS)


def names_row(rows, at, kind):
    """The names that a row of this kind tells, if it stands there, and the index of the row behind it."""
    if kind_at(rows, at) != kind:
        return [], at
    words = rows[at]
    for k in range(1, len(words)):
        if not is_name(words[k]) or (k > 1 and words[k] <= words[k - 1]):
            raise BadText(at, k)
    if len(words) == 1:
        raise BadText(at, 1)
    return words[1:], at + 1


def fixed_rows(rows, at):
    """The fixed names with their pairs that the rows from there on tell, and the index of the row behind them."""
    fixed = {}
    last = ""
    while kind_at(rows, at) == "fixed":
        words = rows[at]
        for k in range(1, min(len(words), 4)):
            if not fixed_word_fits(words[k], k, last):
                raise BadText(at, k)
        check_length(words, 4, at)
        last = words[1]
        fixed[last] = (int(words[2]), int(words[3]))
        at = at + 1
    return fixed, at


def fixed_word_fits(word, k, last):
    """Whether a word can stand with the index k in a row of the kind fixed, the name of the row ahead being last."""
    if k == 1:
        return is_name(word) and word > last
    return is_decimal(word, CONSTANT_DIGITS if k == 2 else PRICE_DIGITS)


def mark_row(rows, at, mark):
    """The index of the row behind that there, which has this one word."""
    if kind_at(rows, at) != mark:
        raise BadText(at, 0)
    check_length(rows[at], 1, at)
    return at + 1


def line_rows(rows, at):
    """The lines of a part that stand there, as pairs, and the index of the row behind them."""
    lines = []
    while kind_at(rows, at) in ("tell", MAKING):
        if kind_at(rows, at) == "tell":
            lines.append((None, told_names(rows[at], at)))
        else:
            lines.append((made_name(rows[at], at), terms_of(rows[at], 2, at)))
        at = at + 1
    return lines, at


def told_names(words, line):
    """The names that a row of the kind tell tells."""
    for k in range(1, len(words)):
        if k > MOST_TOLD or not is_name(words[k]) or words[k] in words[1:k]:
            raise BadText(line, k)
    if len(words) == 1:
        raise BadText(line, 1)
    return words[1:]


def made_name(words, line):
    """The name that a row of the kind MAKING makes."""
    if not is_name(words[0]):
        raise BadText(line, 0)
    return words[0]
