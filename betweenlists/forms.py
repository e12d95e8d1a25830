"""Forms: the orders in which folders list names."""

from betweenlists.checks import check_least, check_name
from betweenlists.errors import InvalidForm, InvalidList
from betweenlists.kinds import LETTERS, is_name_list, is_whole

MOST_CHAINS = 1000


def key_in(form, name):
    """The key of a name in a form.

    Operators of other classes need keys, too, and an operator must not call an object such as a form.
    """
    ranks = tuple([form.letters.index(letter) for letter in name])
    return (sum(ranks) % form.chains, ranks)


def _are_letters(value):
    return isinstance(value, str) and sorted(value) == sorted(LETTERS)


def _are_chains(value):
    return is_whole(value) and 1 <= value <= MOST_CHAINS


class Form:
    """An order of all names: first by their chains, then letter by letter."""

    def __init__(self, letters="abcdefghijklmnopqrstuvwxyz", chains=1):
        if not (_are_letters(letters) and _are_chains(chains)):
            raise InvalidForm((letters, chains))
        self._letters = letters
        self._chains = chains

    @property
    def letters(self):
        """The small letters, in the order of this form."""
        return self._letters

    @property
    def chains(self):
        """The number of chains."""
        return self._chains

    def __call__(self, name):
        check_name(name)
        return key_in(self, name)

    def ordered(self, names):
        """A new list of the names, in the order of this form."""
        if not is_name_list(names):
            raise InvalidList(names)
        return sorted(names, key=lambda name: key_in(self, name))

    def __mul__(self, other):
        check_least(other, 1)
        return Form(self._letters, self._chains * other)

    def __rmul__(self, other):
        return self * other

    def __floordiv__(self, other):
        check_least(other, 1)
        return Form(self._letters, max(1, self._chains // other))

    def __eq__(self, other):
        return isinstance(other, Form) and self.letters == other.letters and self.chains == other.chains
