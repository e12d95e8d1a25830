"""Renamings: those that may have been made, and those that must have been."""

from betweenlists.checks import check_index, check_least, check_place
from betweenlists.demands import demands
from betweenlists.logs import check_clear_log
from betweenlists.looks import Ask
from betweenlists.rules import Rules, rules_from
from betweenlists.steps import fewest_steps, moved, story_from


def _with_moments_around(log, gap, one, other):
    """The log with two more moments in the gap: one just before a renaming in it, and one just behind that."""
    before = [Ask([(one, True), (other, False)])]
    behind = [Ask([(one, False), (other, True)])]
    return log.inserted(gap + 1, before).inserted(gap + 2, behind)


def _story_with(log, gap, one, other, most, rules):
    """A story that counts, with at most so many changes, that renames one place to the other in the gap, or None."""
    wider = _with_moments_around(log, gap, one, other)
    # Nobody asks for anything else at the two moments, so no other demand lies between them.
    step = ((one, gap + 1, gap + 2, "go"), (other, gap + 1, gap + 2, "come"))
    rest = [row for row in demands(wider) if row not in step]
    steps = [step] + fewest_steps(rest, rules)
    if len(steps) > most:
        return None
    gaps = list(range(gap)) + [gap, gap, gap] + list(range(gap + 1, len(log) - 1))
    return moved(story_from(wider, steps), gaps)


def renamed(log, gap, one, other, *, spare=0, rules=None):
    """A story that counts, with so many changes, that renames one place to the other in the gap; None if none does."""
    check_clear_log(log)
    check_index(gap, len(log) - 1)
    check_place(one)
    check_place(other)
    check_least(spare, 0)
    given = rules_from(rules)
    if not given(one, other):
        return None
    most = len(fewest_steps(demands(log), given)) + spare
    return _story_with(log, gap, one, other, most, given)


def _is_always_made(renaming, rows, rules):
    """Whether every story that does these demands with the fewest changes makes the renaming."""
    without = rules & Rules(barred=[renaming])
    return len(fewest_steps(rows, without)) > len(fewest_steps(rows, rules))


def always_renamed(log, one, other, *, rules=None):
    """Whether every story that counts with the fewest changes renames one place to the other."""
    check_clear_log(log)
    check_place(one)
    check_place(other)
    given = rules_from(rules)
    return _is_always_made((one, other), demands(log), given)


def sure_renamings(log, *, rules=None):
    """The ascending list of the renamings that are in every story that counts with the fewest changes."""
    check_clear_log(log)
    given = rules_from(rules)
    rows = demands(log)
    # What is in every such story is in this one, too.
    steps = [step for step in fewest_steps(rows, given) if len(step) == 2]
    found = sorted({(step[0][0], step[1][0]) for step in steps})
    return [renaming for renaming in found if _is_always_made(renaming, rows, given)]
