"""Cores: moments of a log that are enough to show the fewest changes, and none of which can be left out."""

from betweenlists.fewest import fewest
from betweenlists.kinds import is_index_list
from betweenlists.logs import check_clear_log
from betweenlists.rules import rules_from


def _without(moments, k):
    return [at for at in moments if at != k]


def core(log, *, rules=None):
    """The ascending indexes of the moments of a core."""
    check_clear_log(log)
    given = rules_from(rules)
    most = fewest(log, rules=given)
    kept = list(range(len(log)))
    # With fewer moments there are never more changes. So what is needed now is also needed later on.
    for k in range(len(log)):
        fewer = _without(kept, k)
        if fewest(log.part(fewer), rules=given) == most:
            kept = fewer
    return kept


def is_core(log, claim, *, rules=None):
    """Whether the claim is a core."""
    check_clear_log(log)
    given = rules_from(rules)
    if not is_index_list(claim, len(log)):
        return False
    most = fewest(log, rules=given)
    if fewest(log.part(claim), rules=given) < most:
        return False
    return all([fewest(log.part(_without(claim, k)), rules=given) < most for k in claim])
