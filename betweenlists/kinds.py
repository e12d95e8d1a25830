"""What kinds of values there are: the tests of arguments that several modules share."""

LETTERS = "abcdefghijklmnopqrstuvwxyz"
LONGEST_NAME = 8


def is_whole(value):
    """Whether the value is a whole number; a Boolean is none."""
    return isinstance(value, int) and not isinstance(value, bool)


def is_name(value):
    """Whether the value is a name."""
    if not (isinstance(value, str) and 1 <= len(value) <= LONGEST_NAME):
        return False
    return all([letter in LETTERS for letter in value])


def is_place(value):
    """Whether the value is a place."""
    return isinstance(value, tuple) and len(value) == 2 and is_name(value[0]) and is_name(value[1])


def is_name_list(value):
    """Whether the value is a list of names, perhaps with some of them twice."""
    return isinstance(value, list) and all([is_name(item) for item in value])


def is_place_list(value):
    """Whether the value is a list of places, none of them twice."""
    if not (isinstance(value, list) and all([is_place(item) for item in value])):
        return False
    return len(set(value)) == len(value)


def is_index_list(value, many):
    """Whether the value is a list of different indexes of so many items, in ascending order."""
    if not (isinstance(value, list) and all([is_whole(item) and 0 <= item < many for item in value])):
        return False
    return all([low < high for low, high in zip(value, value[1:])])
