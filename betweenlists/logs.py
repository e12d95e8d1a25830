"""Logs: what was seen, moment by moment."""

from betweenlists.checks import check_index, check_place
from betweenlists.errors import InvalidList, InvalidLog, InvalidLook
from betweenlists.kinds import is_index_list
from betweenlists.looks import Look


def check_log(value):
    """Raises InvalidLog unless the value is a log."""
    if not isinstance(value, Log):
        raise InvalidLog(value)


def check_clear_log(value):
    """Raises InvalidLog unless the value is a log that does not clash."""
    if not (isinstance(value, Log) and value.clash() is None):
        raise InvalidLog(value)


def _are_looks(value):
    return isinstance(value, list) and all([isinstance(item, Look) for item in value])


def _are_moments(value):
    return isinstance(value, list) and all([_are_looks(item) for item in value])


def _check_looks(value):
    if not _are_looks(value):
        raise InvalidLog(value)


def _standing(looks):
    """The ascending list of the places that one of the looks says stand."""
    return sorted({place for look in looks for place in look.standing()})


class Log:
    """A list of moments in the order of time; each moment is a list of looks."""

    def __init__(self, moments=None):
        if not (moments is None or _are_moments(moments)):
            raise InvalidLog(moments)
        self._moments = [] if moments is None else [list(looks) for looks in moments]

    def __len__(self):
        return len(self._moments)

    def __getitem__(self, at):
        check_index(at, len(self._moments))
        return list(self._moments[at])

    def __setitem__(self, at, worth):
        check_index(at, len(self._moments))
        _check_looks(worth)
        self._moments[at] = list(worth)

    def __iter__(self):
        raise TypeError("a log is read by its indexes")

    def __iadd__(self, other):
        _check_looks(other)
        self._moments.append(list(other))
        return self

    def __add__(self, other):
        check_log(other)
        return Log(self._moments + other._moments)

    def __eq__(self, other):
        return isinstance(other, Log) and self._moments == other._moments

    def copy(self):
        """An independent log that is equal."""
        return Log(self._moments)

    def says(self, k, place):
        """Whether the place stands at moment k, or None if no look of that moment covers it."""
        check_index(k, len(self._moments))
        check_place(place)
        said = [look.says(place) for look in self._moments[k]]
        if True in said:
            return True
        return False if False in said else None

    def clash(self):
        """The least moment and place of which two looks say different things, or None."""
        for k, looks in enumerate(self._moments):
            for place in _standing(looks):
                if False in [look.says(place) for look in looks]:
                    return (k, place)
        return None

    def places(self):
        """The ascending list of the places that some look says stand."""
        return _standing([look for looks in self._moments for look in looks])

    def also(self, k, look):
        """A new log with one more look at moment k."""
        check_index(k, len(self._moments))
        if not isinstance(look, Look):
            raise InvalidLook(look)
        log = self.copy()
        log[k] = self._moments[k] + [look]
        return log

    def inserted(self, k, looks):
        """A new log with one more moment before moment k, or behind all."""
        check_index(k, len(self._moments) + 1)
        _check_looks(looks)
        return Log(self._moments[:k] + [looks] + self._moments[k:])

    def joined(self, gap):
        """A new log in which the two moments around the gap are one."""
        check_index(gap, len(self._moments) - 1)
        both = self._moments[gap] + self._moments[gap + 1]
        return Log(self._moments[:gap] + [both] + self._moments[gap + 2:])

    def part(self, moments):
        """A new log of the moments with these indexes alone."""
        if not is_index_list(moments, len(self._moments)):
            raise InvalidList(moments)
        return Log([self._moments[k] for k in moments])

    def turned(self):
        """A new log with the moments in the opposite order."""
        return Log(self._moments[::-1])
