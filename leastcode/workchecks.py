"""The rules for the parts of a work: what Work raises, in its order."""

from leastcode.errors import BadInput, BadName, BadNumber, BadPrice, BadWork, MadeAgain, TooMany, Unmade
from leastcode.kinds import check_names, is_name, is_price, is_within
from leastcode.workwords import LEAST_MODULUS, MOST_MODULUS

MOST_LINES = 200
MOST_ROUND = 24
MOST_NAMES = 6


def check_work(parts, given, fixed, results, modulus):
    """Raise as Work, from the modulus on; the three parts have only lines."""
    if not is_within(modulus, LEAST_MODULUS, MOST_MODULUS):
        raise BadNumber(modulus)
    check_pairs(fixed)
    check_lengths(parts)
    check_names(given)
    check_fixed(fixed)
    check_names(results)
    if len(all_names(parts, given, fixed, results)) > MOST_NAMES:
        raise TooMany(MOST_NAMES)
    check_places(parts, given, fixed, results)
    check_constants(given, fixed, modulus)


def check_pairs(fixed):
    """Raise for the least fixed name whose value is no pair."""
    for name in sorted(fixed):
        if not isinstance(fixed[name], tuple) or len(fixed[name]) != 2:
            raise BadWork(fixed[name])


def check_lengths(parts):
    """Raise if a part has too many lines, or ahead and behind together."""
    ahead, loop, behind = parts
    if len(ahead) > MOST_LINES:
        raise TooMany(MOST_LINES)
    if len(loop) > MOST_ROUND or len(behind) > MOST_ROUND:
        raise TooMany(MOST_ROUND)
    if len(ahead) + len(behind) > MOST_LINES:
        raise TooMany(MOST_LINES)


def check_fixed(fixed):
    """Raise for the least fixed name that is none, then for the least one whose price is none."""
    for name in sorted(fixed):
        if not is_name(name):
            raise BadName(name)
    for name in sorted(fixed):
        price = fixed[name][1]
        if not is_price(price):
            raise BadPrice(price)


def all_names(parts, given, fixed, results):
    """All names of a work, ascending."""
    ahead, loop, behind = parts
    lines = ahead + loop + behind
    used = [name for line in lines for name in line.uses]
    return tuple(sorted(set([*used, *made_names(lines), *given, *fixed, *results])))


def made_names(lines):
    """The names that some lines make, in the order of the lines."""
    return [line.makes for line in lines if line.makes is not None]


def check_places(parts, given, fixed, results):
    """Raise for the first place at which a name may be nowhere, or a fixed name is made."""
    ahead, loop, behind = parts
    there = [*given, *fixed]
    check_part("ahead", ahead, there, fixed)
    there = there + made_names(ahead)
    check_part("loop", loop, there, fixed)
    check_part("behind", behind, there, fixed)
    there = there + made_names(behind)
    for name in sorted(results):
        if name not in there:
            raise Unmade(("behind", len(behind)), name)


def check_part(part, lines, there, fixed):
    """Raise for the first line that uses a name neither there nor made before, or makes a fixed name."""
    for index, line in enumerate(lines):
        for name in line.uses:
            if name not in there:
                raise Unmade((part, index), name)
        if line.makes in fixed:
            raise MadeAgain((part, index), line.makes)
        if line.makes is not None:
            there = there + [line.makes]


def check_constants(given, fixed, modulus):
    """Raise for the least fixed name whose constant is no value of the work, or which is given."""
    for name in sorted(fixed):
        constant = fixed[name][0]
        if not is_within(constant, 0, modulus - 1) or name in given:
            raise BadInput(name)
