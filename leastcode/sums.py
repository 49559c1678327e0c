"""Sums: rows of terms, each a factor and names."""

from leastcode.errors import BadSum, BadText, TooMany
from leastcode.kinds import is_name, is_within
from leastcode.sumwords import MOST_FACTOR, MOST_TERM_NAMES, MOST_TERMS, MOST_UNLIKE, sum_words, terms_of


def is_term(value):
    """Whether any value is a term: a factor, and a tuple or list of names."""
    if not isinstance(value, (tuple, list)) or len(value) != 2:
        return False
    factor, names = value
    if not is_within(factor, -MOST_FACTOR, MOST_FACTOR) or not isinstance(names, (tuple, list)):
        return False
    return len(names) <= MOST_TERM_NAMES and all([is_name(name) for name in names])


def unlike_names(terms):
    """The unlike names of some terms, in the order in which they first stand."""
    found = []
    for _, names in terms:
        for name in names:
            if name not in found:
                found.append(name)
    return tuple(found)


class Sum:
    """A sum of one to four terms; it never changes."""

    def __init__(self, *terms):
        if not terms:
            raise BadSum(None)
        if len(terms) > MOST_TERMS:
            raise TooMany(MOST_TERMS)
        for at, term in enumerate(terms):
            if not is_term(term):
                raise BadSum(at)
        self._terms = tuple([(factor, tuple(names)) for factor, names in terms])
        self._names = unlike_names(self._terms)
        if len(self._names) > MOST_UNLIKE:
            raise TooMany(MOST_UNLIKE)

    @property
    def terms(self):
        """The pairs of a factor and a tuple of names."""
        return self._terms

    @property
    def names(self):
        """The unlike names, in the order in which they first stand."""
        return self._names

    @property
    def is_flat(self):
        """Whether no term has more than one name."""
        return all([len(names) <= 1 for _, names in self._terms])

    def total(self, values, modulus):
        """The value of the sum with these values of the names."""
        whole = 0
        for factor, names in self._terms:
            product = factor
            for name in names:
                # The remainder is taken at each step, so that long values stay short.
                product = product * values[name] % modulus
            whole = whole + product
        return whole % modulus

    @classmethod
    def read(cls, text):
        """The sum with just this text."""
        if not isinstance(text, str):
            raise BadSum(None)
        try:
            terms = terms_of(text.split(" "), 0, 0)
        except BadText:
            raise BadSum(None) from None
        return cls(*terms)

    def __eq__(self, other):
        return isinstance(other, Sum) and self._terms == other._terms

    def __str__(self):
        return " ".join(sum_words(self._terms))
