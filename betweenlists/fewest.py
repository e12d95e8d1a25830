"""The fewest changes: how many, a story with so many, and demands that show that no story has fewer."""

from betweenlists.demands import demands, is_demand, one_does_both
from betweenlists.logs import check_log
from betweenlists.pairs import most_pairs, ways_from
from betweenlists.rules import rules_from
from betweenlists.steps import fewest_steps, near_ones, of_way, story_from


def fewest(log, *, rules=None):
    """The least number of changes of all stories that count; None if the log clashes."""
    check_log(log)
    given = rules_from(rules)
    rows = demands(log)
    return None if rows is None else len(fewest_steps(rows, given))


def story_of(log, *, rules=None):
    """A story that counts, with the fewest changes; None if the log clashes."""
    check_log(log)
    given = rules_from(rules)
    rows = demands(log)
    return None if rows is None else story_from(log, fewest_steps(rows, given))


def _most_apart(rows, rules):
    """As many of the demands as possible, no two of which can be one.

    These are the goings on ways from those that are in no pair, and the comings on none of these ways.
    """
    gone, come = of_way(rows, "go"), of_way(rows, "come")
    near = near_ones(gone, come, rules)
    left_of = most_pairs(near, len(come))
    alone = [left for left in range(len(gone)) if left not in left_of]
    found = ways_from(near, left_of, alone)
    lefts = alone + [left_of[right] for right in found]
    return sorted([gone[left] for left in lefts] + [other for k, other in enumerate(come) if k not in found])


def apart(log, *, rules=None):
    """As many demands as the fewest changes, no two of which can be one; None if the log clashes."""
    check_log(log)
    given = rules_from(rules)
    rows = demands(log)
    return None if rows is None else _most_apart(rows, given)


def _are_among(claim, rows):
    """Whether the claim is a list of different demands out of these."""
    if not (isinstance(claim, list) and all([is_demand(item) for item in claim])):
        return False
    return len(set(claim)) == len(claim) and all([item in rows for item in claim])


def is_apart(log, claim, *, rules=None):
    """Whether the claim is a list of different demands of the log, no two of which can be one."""
    check_log(log)
    given = rules_from(rules)
    rows = demands(log)
    if rows is None or not _are_among(claim, rows):
        return False
    come = of_way(claim, "come")
    return not any([one_does_both(one, other, given) for one in of_way(claim, "go") for other in come])
