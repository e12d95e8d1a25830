"""Demands: what must have happened between two moments of a log."""

from betweenlists.errors import InvalidDemand
from betweenlists.kinds import is_place, is_whole
from betweenlists.logs import check_log
from betweenlists.rules import rules_from


def known_of(log, place):
    """The moments at which the place is known, in order, each with whether it stands."""
    said = [(k, log.says(k, place)) for k in range(len(log))]
    return [(k, stands) for k, stands in said if stands is not None]


def demands_of(place, known):
    """The demands of a place that is known at these moments, given in order with whether it stands."""
    return [
        (place, begin, end, "go" if before else "come")
        for (begin, before), (end, after) in zip(known, known[1:])
        if before != after
    ]


def demands(log):
    """The ascending list of the demands of a log; None if it clashes."""
    check_log(log)
    if log.clash() is not None:
        return None
    # A place that no look says stands is never known with different answers.
    return [demand for place in log.places() for demand in demands_of(place, known_of(log, place))]


def is_demand(value):
    """Whether the value is a tuple as demands are, be it of whatever log."""
    if not (isinstance(value, tuple) and len(value) == 4):
        return False
    place, begin, end, way = value
    if not (is_place(place) and is_whole(begin) and is_whole(end)):
        return False
    return 0 <= begin < end and way in ("go", "come")


def _check_demand(value):
    if not is_demand(value):
        raise InvalidDemand(value)


def _windows_meet(one, other):
    """Whether the windows of two demands have a gap in common."""
    return max(one[1], other[1]) < min(one[2], other[2])


def one_does_both(gone, come, rules):
    """Whether one renaming can be what a going and a coming ask for."""
    return _windows_meet(gone, come) and rules(gone[0], come[0])


def can_be_one(one, other, *, rules=None):
    """Whether one renaming can be what both demands ask for."""
    _check_demand(one)
    _check_demand(other)
    given = rules_from(rules)
    if one[3] == other[3]:
        return False
    gone, come = (one, other) if one[3] == "go" else (other, one)
    return one_does_both(gone, come, given)
