"""Stories: what stands at first, and which changes are made in which gaps."""

from betweenlists.changes import carry_out, comes, is_change, is_possible, opposite
from betweenlists.checks import check_index, check_least
from betweenlists.errors import InvalidChange, InvalidStory
from betweenlists.kinds import is_place, is_place_list
from betweenlists.logs import check_log
from betweenlists.rules import rules_from


def may_come(change, gap, standing):
    """Whether this is a change that is possible in this gap or a later one, if these places stand."""
    return is_change(change) and change[0] >= gap and is_possible(change, standing)


def _standing_behind(first, changes):
    """The dict of the places that stand behind all changes; None unless these values make a story."""
    if not (is_place_list(first) and isinstance(changes, list)):
        return None
    standing = {place: True for place in first}
    gap = 0
    for change in changes:
        if not may_come(change, gap, standing):
            return None
        carry_out(change, standing)
        gap = change[0]
    return standing


def _is_right(look, standing):
    """Whether the look is right if these places stand, given as an ascending list."""
    return [place for place in standing if place in look] == look.standing()


class Story:
    """Which places stand at first, and the changes that are made to them."""

    def __init__(self, first, changes=None):
        row = [] if changes is None else changes
        standing = _standing_behind(first, row)
        if standing is None:
            raise InvalidStory((first, changes))
        self._first = sorted(first)
        self._changes = list(row)
        self._last = standing

    @property
    def first(self):
        """The ascending list of the places that stand at first."""
        return list(self._first)

    def __len__(self):
        return len(self._changes)

    def __getitem__(self, at):
        check_index(at, len(self._changes))
        return self._changes[at]

    def __iter__(self):
        raise TypeError("a story is read by its indexes")

    def __iadd__(self, other):
        gap = self._changes[-1][0] if self._changes else 0
        if not may_come(other, gap, self._last):
            raise InvalidChange(other)
        carry_out(other, self._last)
        self._changes.append(other)
        return self

    def __eq__(self, other):
        return isinstance(other, Story) and self._first == other._first and self._changes == other._changes

    def __contains__(self, place):
        if not is_place(place):
            return False
        return place in self._first or place in [comes(change) for change in self._changes]

    def at(self, k):
        """The ascending list of the places that stand at moment k."""
        check_least(k, 0)
        standing = {place: True for place in self._first}
        for change in self._changes:
            if change[0] < k:
                carry_out(change, standing)
        return sorted(standing)

    def fits(self, log):
        """Whether all changes are in gaps of the log, and all its looks are right."""
        check_log(log)
        if not all([change[0] < len(log) - 1 for change in self._changes]):
            return False
        for k in range(len(log)):
            standing = self.at(k)
            if not all([_is_right(look, standing) for look in log[k]]):
                return False
        return True

    def allowed(self, rules):
        """Whether the rules allow each renaming of the story."""
        given = rules_from(rules)
        return all([given(change[2], change[3]) for change in self._changes if change[1] == "rename"])

    def turned(self, moments):
        """The story as it looks if time runs backwards over so many moments."""
        check_least(moments, max([1] + [change[0] + 2 for change in self._changes]))
        changes = [opposite(change, moments - 2 - change[0]) for change in self._changes[::-1]]
        return Story(self.at(moments - 1), changes)
