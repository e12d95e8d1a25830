"""Rules: which renamings are allowed."""

from betweenlists.checks import check_place
from betweenlists.errors import InvalidRules
from betweenlists.kinds import is_place


def _is_renaming(value):
    return isinstance(value, tuple) and len(value) == 2 and is_place(value[0]) and is_place(value[1])


def _are_renamings(value):
    return isinstance(value, list) and all([_is_renaming(item) for item in value])


def _in_reach(across, renaming):
    """Whether rules that bar no renaming allow this one."""
    one, other = renaming
    return one != other and (across or one[0] == other[0])


def _check_rules(value):
    if not isinstance(value, Rules):
        raise InvalidRules(value)


def rules_from(value):
    """The rules that the argument for a parameter `rules` stands for."""
    if value is None:
        return Rules()
    _check_rules(value)
    return value


class Rules:
    """Which renamings are allowed: those within reach, but for some that are barred.

    Only barred renamings within reach are kept. As there are far more renamings across folders than could ever be
    barred, two rules then allow the same renamings exactly if they have the same reach and bar the same.
    """

    def __init__(self, *, across=True, barred=None):
        if not (isinstance(across, bool) and (barred is None or _are_renamings(barred))):
            raise InvalidRules((across, barred))
        given = [] if barred is None else sorted(barred)
        self._across = across
        self._barred = {renaming: True for renaming in given if _in_reach(across, renaming)}

    @property
    def across(self):
        """Whether places are renamed across folders."""
        return self._across

    @property
    def barred(self):
        """The ascending list of the renamings that are barred."""
        return list(self._barred)

    def __call__(self, one, other):
        check_place(one)
        check_place(other)
        return self._allows((one, other))

    def _allows(self, renaming):
        # Apart from the call, as an operator must not call an object such as these rules.
        return _in_reach(self._across, renaming) and renaming not in self._barred

    def __eq__(self, other):
        return isinstance(other, Rules) and self.across == other.across and self.barred == other.barred

    def __and__(self, other):
        _check_rules(other)
        return Rules(across=self._across and other._across, barred=self.barred + other.barred)

    def __or__(self, other):
        _check_rules(other)
        # What neither allows is barred by the one that reaches farther.
        given = self.barred + other.barred
        barred = [renaming for renaming in given if not (self._allows(renaming) or other._allows(renaming))]
        return Rules(across=self._across or other._across, barred=barred)

    def within(self, other):
        """Whether the other rules allow everything that these allow."""
        _check_rules(other)
        if self._across and not other.across:
            return False
        return not any([self._allows(renaming) for renaming in other.barred])

    def turned(self):
        """The rules that allow each renaming exactly if these allow it the other way."""
        return Rules(across=self._across, barred=[(other, one) for one, other in self._barred])
