"""The errors of the package: each is directly below LeastError, none below another one."""


class LeastError(ValueError):
    """What all errors of the package have in common."""


class BadName(LeastError):
    """The value is no name."""

    def __init__(self, value):
        self.value = value


class BadNumber(LeastError):
    """The value is no number that can stand there."""

    def __init__(self, value):
        self.value = value


class BadPrice(LeastError):
    """The value is no price."""

    def __init__(self, value):
        self.value = value


class BadPlace(LeastError):
    """The value is no place of the work."""

    def __init__(self, value):
        self.value = value


class BadSlots(LeastError):
    """The value is no number of slots."""

    def __init__(self, value):
        self.value = value


class Twice(LeastError):
    """The name stands twice where it can stand once only."""

    def __init__(self, name):
        self.name = name


class TooMany(LeastError):
    """There are more than the most that there can be."""

    def __init__(self, most):
        self.most = most


class Unmade(LeastError):
    """The name is wanted at the place, and may be nowhere."""

    def __init__(self, place, name):
        self.place = place
        self.name = name


class MadeAgain(LeastError):
    """The line at the place makes the name, which is fixed."""

    def __init__(self, place, name):
        self.place = place
        self.name = name


class NoRoom(LeastError):
    """The line at the place wants more slots than there are."""

    def __init__(self, place):
        self.place = place


class BadSum(LeastError):
    """The term with this index is none, or, with None, all of it is no sum."""

    def __init__(self, at):
        self.at = at


class BadWork(LeastError):
    """The value is nothing that a work can have there."""

    def __init__(self, value):
        self.value = value


class BadInput(LeastError):
    """The name has no value that can stand, or, with None, the names are not the wanted ones."""

    def __init__(self, name):
        self.name = name


class BadCode(LeastError):
    """This part of a code cannot stand."""

    def __init__(self, part):
        self.part = part


class BadText(LeastError):
    """The text cannot be read from this word of this line on."""

    def __init__(self, line, word):
        self.line = line
        self.word = word


class BadLine(LeastError):
    """The line cannot be read from this word on."""

    def __init__(self, word):
        self.word = word
