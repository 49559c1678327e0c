"""Tasks: works with a number of slots, and prices."""

from leastcode.errors import BadSlots, NoRoom, TooMany
from leastcode.kinds import is_within
from leastcode.needed import PARTS, lines_of, needed_anywhere
from leastcode.prices import Prices
from leastcode.standings import sound_codes
from leastcode.works import line_room

MOST_SLOTS = 4
MOST_STANDINGS = 600


def check_room(work, slots):
    """Raise NoRoom with the first place whose line wants more slots."""
    for part in PARTS:
        for index, line in enumerate(lines_of(work, part)):
            if line_room(line) > slots:
                raise NoRoom((part, index))


def check_standings(work, slots):
    """Raise TooMany if there are too many sound standings at a place."""
    fixed = work.fixed
    for names in sorted(set(needed_anywhere(work))):
        if len(sound_codes(names, fixed, slots)) > MOST_STANDINGS:
            raise TooMany(MOST_STANDINGS)


class Task:
    """A work with a number of slots, and prices; it never changes."""

    def __init__(self, work, slots, prices=None):
        if not is_within(slots, 1, MOST_SLOTS):
            raise BadSlots(slots)
        check_room(work, slots)
        check_standings(work, slots)
        self._work = work
        self._slots = slots
        self._prices = Prices(1, 1) if prices is None else prices

    @property
    def work(self):
        """The work."""
        return self._work

    @property
    def slots(self):
        """The number of slots."""
        return self._slots

    @property
    def prices(self):
        """The prices."""
        return self._prices

    def __eq__(self, other):
        return (isinstance(other, Task) and self._work == other._work and self._slots == other._slots
                and self._prices == other._prices)
