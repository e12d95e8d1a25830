"""Steps: what must happen, one change each.

A step is a tuple of the demands that its change does: a going and a coming for a renaming, otherwise one of the two.
"""

from betweenlists.demands import one_does_both
from betweenlists.pairs import most_pairs
from betweenlists.stories import Story


def of_way(rows, way):
    """The demands of this way, in their order."""
    return [row for row in rows if row[3] == way]


def near_ones(gone, come, rules):
    """For each going the indexes of the comings with which it can be one."""
    return [[k for k, other in enumerate(come) if one_does_both(one, other, rules)] for one in gone]


def fewest_steps(rows, rules):
    """As few steps as possible that do all of these demands."""
    gone, come = of_way(rows, "go"), of_way(rows, "come")
    left_of = most_pairs(near_ones(gone, come, rules), len(come))
    renamed = [(gone[left], come[k]) for k, left in enumerate(left_of) if left is not None]
    taken = [(one,) for left, one in enumerate(gone) if left not in left_of]
    added = [(other,) for k, other in enumerate(come) if left_of[k] is None]
    return renamed + taken + added


def _change_of(step):
    """The change of a step, in the first gap in which it does its demands."""
    gap = max([row[1] for row in step])
    places = tuple([row[0] for row in step])
    if len(step) == 2:
        return (gap, "rename") + places
    return (gap, "take" if step[0][3] == "go" else "add") + places


def _first_of(log, rows):
    """The places that stand at first if nothing happens but what the demands of the log ask for."""
    ways = {}
    for row in sorted(rows):
        ways.setdefault(row[0], row[3])
    return [place for place in log.places() if ways.get(place) != "come"]


def story_from(log, steps):
    """The story of a log in which nothing happens but these steps, which do all of its demands.

    The windows of one place have no gap in common. So no two changes of one gap touch the same place, and they can
    come in any order.
    """
    rows = [row for step in steps for row in step]
    return Story(_first_of(log, rows), sorted([_change_of(step) for step in steps]))


def moved(story, gaps):
    """The story with each change in the gap that the list has in the place of its own gap."""
    changes = [story[k] for k in range(len(story))]
    return Story(story.first, [(gaps[change[0]],) + change[1:] for change in changes])
