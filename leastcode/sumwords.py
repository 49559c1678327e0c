"""The words of a sum: those that tell some terms, and the terms that some words tell."""

from leastcode.errors import BadText
from leastcode.kinds import is_decimal, is_name

MOST_TERMS = 4
MOST_TERM_NAMES = 3
MOST_UNLIKE = 3
MOST_FACTOR = 999999
FACTOR_DIGITS = 6


def term_text(factor, names):
    """The text of a term with this factor; a factor of 1 is left out if there is a name."""
    if factor == 1 and names:
        return " * ".join(names)
    return " * ".join([str(factor), *names])


def sum_words(terms):
    """The texts of the terms of a sum, and the signs between them."""
    words = []
    for at, (factor, names) in enumerate(terms):
        if at == 0:
            words.append(term_text(factor, names))
        else:
            words.append("-" if factor < 0 else "+")
            words.append(term_text(abs(factor), names))
    return words


def terms_of(words, start, line):
    """The terms told by the words from start to the end; raises BadText with the line and the first wrong word."""
    terms = []
    sign = "="
    at = start
    while True:
        term, at = term_at(words, start, at, sign, line)
        terms.append(term)
        if at == len(words):
            return terms
        sign = words[at]
        if sign not in ("+", "-") or len(terms) == MOST_TERMS:
            raise BadText(line, at)
        at = at + 1


def term_at(words, start, at, sign, line):
    """The term that begins at this word, behind this sign, and the index of the word behind the term."""
    if at < len(words) and is_name(words[at]):
        factor = -1 if sign == "-" else 1
        names, behind = names_at(words, start, at, line)
        return (factor, names), behind
    factor = None if at == len(words) else factor_of(words[at], sign)
    if factor is None:
        raise BadText(line, at)
    behind = at + 1
    if behind == len(words) or words[behind] != "*":
        return (factor, ()), behind
    # A factor of 1 ahead of a name is never written, so nothing is multiplied by a written 1.
    if words[at] == "1":
        raise BadText(line, behind)
    names, behind = names_at(words, start, behind + 1, line)
    return (factor, names), behind


def names_at(words, start, at, line):
    """The names from this word on with their signs of multiplication, and the index of the word behind them."""
    names = []
    while True:
        if not name_fits(words, start, at):
            raise BadText(line, at)
        names.append(words[at])
        at = at + 1
        if at == len(words) or words[at] != "*":
            return tuple(names), at
        if len(names) == MOST_TERM_NAMES:
            raise BadText(line, at)
        at = at + 1


def name_fits(words, start, at):
    """Whether a name stands there that brings no unlike name too many to the sum."""
    if at == len(words) or not is_name(words[at]):
        return False
    return len({word for word in words[start:at + 1] if is_name(word)}) <= MOST_UNLIKE


def factor_of(word, sign):
    """The factor that a word tells behind this sign, or None."""
    if sign == "=" and word.startswith("-"):
        digits = word[1:]
        return -int(digits) if is_decimal(digits, FACTOR_DIGITS) and digits != "0" else None
    if not is_decimal(word, FACTOR_DIGITS):
        return None
    if sign == "-":
        return -int(word) if word != "0" else None
    return int(word)
