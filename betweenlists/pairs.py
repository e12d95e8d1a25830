"""Pairs: as many as possible of a left and a right item that are near each other, with no item in two of them.

The items are numbers from 0; `near` has for each left item the list of the right items near it, and `left_of` for each
right item the left item in its pair, or None.
"""


def ways_from(near, left_of, starts):
    """The right items on ways from some left items, each with the left item before it on its way.

    A way goes from a left item to each right item near it, and from there to the left item in its pair.
    """
    found = {}
    lefts = starts
    while lefts:
        ahead = []
        for left in lefts:
            for right in near[left]:
                if right not in found:
                    found[right] = left
                    if left_of[right] is not None:
                        ahead.append(left_of[right])
        lefts = ahead
    return found


def _pair_along(found, end, left_of, right_of):
    """Pairs the items anew along the way to a right item that is in no pair: one more pair than before."""
    right = end
    while right is not None:
        left = found[right]
        ahead = right_of[left]
        left_of[right], right_of[left] = left, right
        right = ahead


def most_pairs(near, many):
    """The list `left_of` with as many pairs as possible, of so many right items."""
    left_of = [None] * many
    right_of = [None] * len(near)
    for start in range(len(near)):
        found = ways_from(near, left_of, [start])
        free = [right for right in found if left_of[right] is None]
        if free:
            _pair_along(found, free[0], left_of, right_of)
    return left_of
