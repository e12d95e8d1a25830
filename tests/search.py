"""A slow search over all stories of a small log: what the package has to find, by the words of the document.

A story is a way through sets of places, one change at a time. The search knows nothing of demands or windows.
"""

import itertools

from betweenlists.rules import Rules


class Search:
    """All stories over some places that count for a log and some rules, perhaps only with changes in some gaps."""

    def __init__(self, log, places, *, rules=None, gaps=None):
        self.log = log
        self.places = places
        self.rules = Rules() if rules is None else rules
        self.gaps = range(len(log) - 1) if gaps is None else gaps
        rows = itertools.product([False, True], repeat=len(places))
        self.sets = [frozenset(place for place, stands in zip(places, row) if stands) for row in rows]
        self.ahead = {one: [other for _, other in self.changes(one)] for one in self.sets}
        self.back = {one: [] for one in self.sets}
        for one, others in self.ahead.items():
            for other in others:
                self.back[other].append(one)
        self.right = [[one for one in self.sets if self.is_right(k, one)] for k in range(len(log))]
        self.before = self.costs(list(range(len(log))), self.ahead)
        self.after = self.costs(list(reversed(range(len(log)))), self.back)

    def is_right(self, k, standing):
        for look in self.log[k]:
            if any(place in look and look.says(place) != (place in standing) for place in self.places):
                return False
            if not set(look.standing()) <= standing:
                return False
        return True

    def changes(self, standing):
        """Each change that is possible and allowed, with the places that stand behind it."""
        found = []
        for place in self.places:
            if place in standing:
                found.append((("take", place), standing - {place}))
                for other in self.places:
                    if other not in standing and self.rules(place, other):
                        found.append((("rename", place, other), standing - {place} | {other}))
            else:
                found.append((("add", place), standing | {place}))
        return found

    def spread(self, costs, near):
        """The fewest changes to each set of places within one gap, from the fewest before it."""
        found = dict(costs)
        rows = {cost: [one for one in costs if costs[one] == cost] for cost in set(costs.values())}
        cost = min(rows, default=0)
        while cost in rows or any(later > cost for later in rows):
            for one in rows.pop(cost, []):
                if found[one] == cost:
                    for other in near[one]:
                        if found.get(other, cost + 2) > cost + 1:
                            found[other] = cost + 1
                            rows.setdefault(cost + 1, []).append(other)
            cost += 1
        return found

    def costs(self, moments, near):
        """For each moment the fewest changes on the way to each set of places that is right there."""
        found = {}
        for at, k in enumerate(moments):
            if at == 0:
                found[k] = {one: 0 for one in self.right[k]}
                continue
            before = found[moments[at - 1]]
            if min(k, moments[at - 1]) in self.gaps:
                before = self.spread(before, near)
            found[k] = {one: before[one] for one in self.right[k] if one in before}
        return found

    def fewest(self):
        """The fewest changes of all stories; None if there is none."""
        if not len(self.log):
            return 0
        return min(self.before[len(self.log) - 1].values(), default=None)

    def fewest_at(self, k, place, stands):
        """The fewest changes of all stories in which the place stands, or does not, at moment k."""
        costs = [
            self.before[k][one] + self.after[k][one]
            for one in self.before[k]
            if one in self.after[k] and (place in one) == stands
        ]
        return min(costs, default=None)

    def fewest_with(self, gap, one, other):
        """The fewest changes of all stories that rename one place to the other in this gap."""
        if not self.rules(one, other):
            return None
        before = self.spread(self.before[gap], self.ahead)
        after = self.spread(self.after[gap + 1], self.back)
        costs = []
        for standing in self.sets:
            behind = standing - {one} | {other}
            if one in standing and other not in standing and standing in before and behind in after:
                costs.append(before[standing] + 1 + after[behind])
        return min(costs, default=None)

    def stood(self, k, place, spare):
        """What [80] asks for, by the fewest changes with and without the place."""
        most = self.fewest() + spare
        stands, does_not = [self.fewest_at(k, place, value) for value in (True, False)]
        can_stand = stands is not None and stands <= most
        can_miss = does_not is not None and does_not <= most
        return {(True, False): True, (False, True): False, (True, True): None}[(can_stand, can_miss)]

    def stories(self):
        """Each story with the fewest changes, as its list of changes."""
        if not len(self.log):
            return [[]]
        last = len(self.log) - 1
        rest = [self.spread(self.after[gap + 1], self.back) for gap in range(last)] + [self.after[last]]
        open_ones = [(0, one, []) for one in self.right[0] if rest[0].get(one) == self.fewest()]
        found = []
        while open_ones:
            gap, one, made = open_ones.pop()
            if gap == last:
                found.append(made)
                continue
            if one in self.right[gap + 1] and rest[gap + 1].get(one) == rest[gap][one]:
                open_ones.append((gap + 1, one, made))
            for change, other in self.changes(one):
                if rest[gap].get(other) == rest[gap][one] - 1:
                    open_ones.append((gap, other, made + [(gap,) + change]))
        return found
