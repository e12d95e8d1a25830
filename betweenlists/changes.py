"""Changes: what goes and what comes by each of them."""

from betweenlists.kinds import is_place, is_whole


def is_change(value):
    """Whether the value is a change; whether it is possible depends on what stands."""
    if not (isinstance(value, tuple) and len(value) >= 3 and is_whole(value[0]) and value[0] >= 0):
        return False
    if value[1] not in ("add", "take", "rename"):
        return False
    many = 2 if value[1] == "rename" else 1
    return len(value) == 2 + many and all([is_place(item) for item in value[2:]])


def goes(change):
    """The place that has to stand before the change and does not behind it, or None."""
    return None if change[1] == "add" else change[2]


def comes(change):
    """The place that must not stand before the change and does behind it, or None."""
    return None if change[1] == "take" else change[-1]


def is_possible(change, standing):
    """Whether the change is possible if these places stand, the keys of the dict."""
    old, new = goes(change), comes(change)
    return (old is None or old in standing) and (new is None or new not in standing)


def carry_out(change, standing):
    """Makes a change that is possible in the dict of the places that stand."""
    old, new = goes(change), comes(change)
    if old is not None:
        del standing[old]
    if new is not None:
        standing[new] = True


def opposite(change, gap):
    """The change, in this gap, that takes the change back."""
    if change[1] == "rename":
        return (gap, "rename", change[3], change[2])
    return (gap, "take" if change[1] == "add" else "add", change[2])
