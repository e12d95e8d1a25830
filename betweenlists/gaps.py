"""Few gaps: in how few gaps everything can have happened, and what happened if it did so in certain gaps."""

from betweenlists.demands import demands
from betweenlists.errors import InvalidList
from betweenlists.fewest import story_of
from betweenlists.kinds import is_index_list
from betweenlists.logs import check_log
from betweenlists.rules import rules_from
from betweenlists.steps import moved


def disjoint(log):
    """As many demands as possible, no two windows of which have a gap in common; None if the log clashes."""
    rows = demands(log)
    if rows is None:
        return None
    chosen = []
    for row in sorted(rows, key=lambda demand: demand[2]):
        if not chosen or chosen[-1][2] <= row[1]:
            chosen.append(row)
    return chosen


def busy(log):
    """An ascending list of gaps, as few as possible, in which everything can have happened; None if the log clashes."""
    chosen = disjoint(log)
    if chosen is None:
        return None
    # Each demand that was not chosen has a window that began, and did not end, before that of a chosen one ended.
    return [row[2] - 1 for row in chosen]


def _joined_but(log, gaps):
    """The log in which the moments around each gap but these are joined."""
    joined = log
    for gap in reversed(range(len(log) - 1)):
        if gap not in gaps:
            joined = joined.joined(gap)
    return joined


def story_in(log, gaps, *, rules=None):
    """A story that counts, has no change in other gaps, and the fewest of all such stories; None if there is none."""
    check_log(log)
    if not is_index_list(gaps, len(log) - 1):
        raise InvalidList(gaps)
    given = rules_from(rules)
    story = story_of(_joined_but(log, gaps), rules=given)
    return None if story is None else moved(story, gaps)
