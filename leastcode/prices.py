"""The prices of moves."""

from leastcode.errors import BadPrice
from leastcode.kinds import is_price


class Prices:
    """The prices of loading and of storing, perhaps with own ones for loading some names; they never change."""

    def __init__(self, load, store, loads=None):
        own = {} if loads is None else dict(loads)
        for price in [load, store, *[own[name] for name in sorted(own)]]:
            if not is_price(price):
                raise BadPrice(price)
        self._load = load
        self._store = store
        self._loads = own
        # An own price that is the general one says nothing, so equality leaves it out.
        self._unlike = {name: price for name, price in own.items() if price != load}

    @property
    def load(self):
        """The general price of loading."""
        return self._load

    @property
    def store(self):
        """The price of storing."""
        return self._store

    @property
    def loads(self):
        """A new dict from names to their own prices of loading."""
        return dict(self._loads)

    def load_of(self, name):
        """The price of loading this name."""
        return self._loads.get(name, self._load)

    def __eq__(self, other):
        return (isinstance(other, Prices) and self._load == other._load and self._store == other._store
                and self._unlike == other._unlike)
