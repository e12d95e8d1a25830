"""What is sure about a moment, if there were at most so many changes more than there must have been."""

from betweenlists.checks import check_index, check_least, check_place
from betweenlists.demands import demands, demands_of, known_of
from betweenlists.logs import check_clear_log
from betweenlists.rules import rules_from
from betweenlists.steps import fewest_steps


class Outlook:
    """The stories of a log that count and have at most so many changes more than the fewest."""

    def __init__(self, log, spare, rules):
        self._log = log
        self._rules = rules
        self._rows = demands(log)
        self._most = self._fewest(self._rows) + spare

    def _fewest(self, rows):
        return len(fewest_steps(rows, self._rules))

    def allows(self, k, place, stands):
        """Whether the place stands at moment k, or does not, in one of these stories."""
        said = self._log.says(k, place)
        if said is not None:
            return said == stands
        known = sorted(known_of(self._log, place) + [(k, stands)])
        others = [row for row in self._rows if row[0] != place]
        return self._fewest(others + demands_of(place, known)) <= self._most

    def tells(self, k, place):
        """Whether the place stands at moment k in all of these stories, or in none; otherwise None."""
        if not self.allows(k, place, False):
            return True
        return None if self.allows(k, place, True) else False


def stood(log, k, place, *, spare=0, rules=None):
    """Whether the place stands at moment k in all stories with so many changes, or in none; otherwise None."""
    check_clear_log(log)
    check_index(k, len(log))
    check_place(place)
    check_least(spare, 0)
    given = rules_from(rules)
    return Outlook(log, spare, given).tells(k, place)


def course(log, place, *, spare=0, rules=None):
    """What is sure about the place, moment by moment."""
    check_clear_log(log)
    check_place(place)
    check_least(spare, 0)
    outlook = Outlook(log, spare, rules_from(rules))
    return [outlook.tells(k, place) for k in range(len(log))]


def standing(log, k, *, spare=0, rules=None):
    """The ascending list of the places that stand at moment k in all stories with so many changes."""
    check_clear_log(log)
    check_index(k, len(log))
    check_least(spare, 0)
    outlook = Outlook(log, spare, rules_from(rules))
    # A place that no look says stands need not stand at any moment.
    return [place for place in log.places() if not outlook.allows(k, place, False)]
