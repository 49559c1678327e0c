"""Works: loops of lines, with lines ahead of them and behind them."""

from leastcode.errors import BadName, BadNumber, BadSum, BadWork, TooMany
from leastcode.kinds import check_names, is_from, is_name
from leastcode.sums import Sum
from leastcode.workchecks import MOST_LINES, MOST_ROUND, all_names, check_work
from leastcode.workwords import MOST_TOLD, head_rows, parts_of


class Tell:
    """A line that tells the values of some names; it never changes."""

    def __init__(self, *names):
        check_names(names)
        if len(names) > MOST_TOLD:
            raise TooMany(MOST_TOLD)
        if not names:
            raise BadWork(None)
        self._names = names

    @property
    def names(self):
        """The told names, in their order."""
        return self._names

    @property
    def uses(self):
        """The used names, in their order."""
        return self._names

    @property
    def makes(self):
        """None: nothing is made."""
        return None

    def __eq__(self, other):
        return isinstance(other, Tell) and self._names == other._names

    def __str__(self):
        return " ".join(["tell", *self._names])


class Let:
    """A line that makes a name by a sum; it never changes."""

    def __init__(self, name, value):
        if not is_name(name):
            raise BadName(name)
        if not isinstance(value, Sum):
            raise BadSum(None)
        # These are plain attributes, not properties: errors assign attributes of these names, too, and where one is
        # a property with a setter, an operator that makes an error would run that setter.
        self.name = name
        self.value = value

    @property
    def uses(self):
        """The used names, in the order in which they first stand in the sum."""
        return self.value.names

    @property
    def makes(self):
        """The made name."""
        return self.name

    def __eq__(self, other):
        return isinstance(other, Let) and self.name == other.name and self.value == other.value

    def __str__(self):
        return f"{self.name} = {self.value}"


def check_lines(lines):
    """Raise BadWork with the first item that is no line."""
    for line in lines:
        if not isinstance(line, (Tell, Let)):
            raise BadWork(line)


def line_room(line):
    """The number of slots that a line wants: no used name gives its slot to a made one."""
    return len(line.uses) + (0 if line.makes is None or line.makes in line.uses else 1)


def times(lines, n):
    """The lines of a part n times."""
    # Python refuses to repeat even nothing a number of times of very many digits.
    return lines * n if lines else ()


def renamed_line(line, names):
    """The line with other names, told by a dict with all of its names."""
    if isinstance(line, Tell):
        told = [names[name] for name in line.names]
        return Tell(*told)
    terms = [(factor, [names[name] for name in old]) for factor, old in line.value.terms]
    return Let(names[line.name], Sum(*terms))


def work_rows(work):
    """The lines of the text of a work."""
    rows = head_rows(work.given, work.fixed, work.results, work.modulus)
    ahead, loop, behind = [[str(line) for line in lines] for lines in (work.ahead, work.loop, work.behind)]
    return rows + ahead + ["loop"] + loop + ["end"] + behind


def read_lines(pairs):
    """The lines of a part, from their pairs as parts_of tells them."""
    lines = []
    for makes, said in pairs:
        lines.append(Tell(*said) if makes is None else Let(makes, Sum(*said)))
    return lines


def work_of(text):
    """The work with this text; raises as read_work."""
    parts, given, fixed, results, modulus = parts_of(text)
    ahead, loop, behind = [read_lines(pairs) for pairs in parts]
    return Work(ahead, loop, behind, given=given, fixed=fixed, results=results, modulus=modulus)


class Work:
    """A loop with the lines ahead of it and behind it, and what they are done with; it never changes."""

    def __init__(self, ahead, loop, behind=(), *, given=(), fixed=None, results=(), modulus=2 ** 32):
        parts = (tuple(ahead), tuple(loop), tuple(behind))
        pairs = {} if fixed is None else dict(fixed)
        for lines in parts:
            check_lines(lines)
        check_work(parts, given, pairs, results, modulus)
        self._ahead = parts[0]
        self._loop = parts[1]
        self._behind = parts[2]
        self._given = tuple(sorted(given))
        self._fixed = pairs
        self._results = tuple(sorted(results))
        self._modulus = modulus
        self._names = all_names(parts, given, pairs, results)

    @property
    def ahead(self):
        """The lines ahead of the loop."""
        return self._ahead

    @property
    def loop(self):
        """The lines of the loop."""
        return self._loop

    @property
    def behind(self):
        """The lines behind the loop."""
        return self._behind

    @property
    def given(self):
        """The given names, ascending."""
        return self._given

    @property
    def fixed(self):
        """A new dict from the fixed names to pairs of a constant and a price."""
        return dict(self._fixed)

    @property
    def results(self):
        """The names whose values are wanted at the end, ascending."""
        return self._results

    @property
    def modulus(self):
        """The modulus."""
        return self._modulus

    @property
    def names(self):
        """All names, ascending."""
        return self._names

    @property
    def room(self):
        """The least number of slots with which each line can be done, at least 1."""
        return max([line_room(line) for line in self._ahead + self._loop + self._behind], default=1)

    @property
    def is_flat(self):
        """Whether the loop has no tell and only flat sums."""
        return all([isinstance(line, Let) and line.value.is_flat for line in self._loop])

    def straight(self, n):
        """The lines of the straight form for n rounds."""
        if not is_from(n, 0):
            raise BadNumber(n)
        if len(self._ahead) + n * len(self._loop) + len(self._behind) > MOST_LINES:
            raise TooMany(MOST_LINES)
        return self._ahead + times(self._loop, n) + self._behind

    def unrolled(self, j):
        """The work with j rounds put behind the lines ahead."""
        lines = self.straight(j)
        return self._with_lines(lines[:len(lines) - len(self._behind)], self._loop)

    def _with_lines(self, ahead, loop):
        """The work with other lines ahead and other ones of the loop."""
        return Work(ahead, loop, self._behind, given=self._given, fixed=self._fixed, results=self._results,
                    modulus=self._modulus)

    def renamed(self, names):
        """The work with other names."""
        for name in sorted(names):
            if not is_name(names[name]):
                raise BadName(names[name])
        new = {name: names.get(name, name) for name in self._names}
        # All of them are names, and the first one in this order that stands twice is the least one.
        check_names(sorted(new.values()))
        parts = [[renamed_line(line, new) for line in lines] for lines in (self._ahead, self._loop, self._behind)]
        fixed = {new[name]: self._fixed[name] for name in self._fixed}
        return Work(parts[0], parts[1], parts[2], given=[new[name] for name in self._given], fixed=fixed,
                    results=[new[name] for name in self._results], modulus=self._modulus)

    def __pow__(self, other):
        if not is_from(other, 1):
            raise BadNumber(other)
        if other * len(self._loop) > MOST_ROUND:
            raise TooMany(MOST_ROUND)
        return self._with_lines(self._ahead, times(self._loop, other))

    @classmethod
    def read(cls, text):
        """The work with this text, as read_work."""
        return work_of(text)

    def __eq__(self, other):
        return (isinstance(other, Work) and self._ahead == other._ahead and self._loop == other._loop
                and self._behind == other._behind and self._given == other._given and self._fixed == other._fixed
                and self._results == other._results and self._modulus == other._modulus)

    def __str__(self):
        return "\n".join(work_rows(self))
