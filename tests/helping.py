"""What several tests use."""

from leastcode import errors


def alike(one, other):
    """Whether two values are equal and of the same kinds throughout."""
    if type(one) is not type(other):
        return False
    if isinstance(one, (tuple, list)):
        return len(one) == len(other) and all(alike(a, b) for a, b in zip(one, other))
    if isinstance(one, dict):
        return one.keys() == other.keys() and all(alike(one[key], other[key]) for key in one)
    return one == other


def caught(call, *values, **named):
    """The error of the package that a call raises, or None."""
    try:
        call(*values, **named)
    except errors.LeastError as error:
        return error
    return None


def said(error):
    """An error as a text, for the messages of the tests."""
    return "no error" if error is None else f"{type(error).__name__}({vars(error)})"


def check_raises(test, error, call, *values, **named):
    """Fail unless a call raises just such an error, with the same attributes of the same kinds."""
    found = caught(call, *values, **named)
    if type(found) is not type(error) or not alike(vars(found), vars(error)):
        test.fail(f"{said(found)} instead of {said(error)}, for {values!r:.200} {named!r:.200}")


def check_same(test, found, wanted):
    """Fail unless two values are equal and of the same kinds throughout."""
    if not alike(found, wanted):
        test.fail(f"{found!r:.500} instead of {wanted!r:.500}")


def check_session(test, text):
    """Do a session as the document writes them, and fail where an answer is another one."""
    names = {}
    rows = text.strip().split("\n")
    for at, row in enumerate(rows):
        if not row.startswith(">>> "):
            continue
        wanted = rows[at + 1] if at + 1 < len(rows) and not rows[at + 1].startswith(">>> ") else None
        line = row[4:]
        with test.subTest(line=line):
            if wanted is None:
                exec(line, names)
            elif wanted.startswith("raises "):
                error = eval(wanted[len("raises "):], dict(vars(errors)))
                check_raises(test, error, eval, line, names)
            else:
                test.assertEqual(repr(eval(line, names)), wanted)


# Values of many kinds, none of which is a name, a number from 0 on, a line, a sum or a text.
ODD_VALUES = [
    None, True, False, -1, -10 ** 59, "", "A", "toolong", "a b", " a", "a1", "1", "\u00e9", "-", [], (), {}, ["a"],
    ("a",), {"a": 1}, [[[]]], ("a", 1), errors.BadName("a"),
]
