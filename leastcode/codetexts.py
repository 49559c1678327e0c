"""Texts of codes."""

from leastcode.codewords import code_of_rows, code_rows
from leastcode.errors import BadCode, BadText


def show_code(code):
    """The text of a code."""
    return "\n".join([" ".join(words) for words in code_rows(code)])


def read_code(text):
    """The code with just this text."""
    if not isinstance(text, str):
        raise BadText(0, 0)
    try:
        code = code_of_rows([row.split(" ") for row in text.split("\n")])
    except BadCode:
        raise BadText(0, 0) from None
    # Reading takes more texts than are shown; all but those are refused here.
    if show_code(code) != text:
        raise BadText(0, 0)
    return code
