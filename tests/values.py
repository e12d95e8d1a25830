"""Values for the tests: some of every kind, so that each argument meets the wrong ones, too."""

from betweenlists.disks import Disk
from betweenlists.errors import BetweenError, Closed, Failed, InvalidName
from betweenlists.forms import Form
from betweenlists.logs import Log
from betweenlists.looks import Ask, Piece
from betweenlists.rules import Rules
from betweenlists.stories import Story

ALPHABET = "abcdefghijklmnopqrstuvwxyz"
BACKWARDS = ALPHABET[::-1]


def deep_list(depth):
    value = []
    for _ in range(depth - 1):
        value = [value]
    return value


def deep_tuple(depth):
    value = ("a", "b")
    for _ in range(depth - 1):
        value = (value, value[0])
    return value


def odd_strings():
    """Strings that are no names."""
    return [
        "", " ", "A", "aB", "a b", "a-b", "a1", "1", "a.", "/", "~", "\n", "a\n", "\na", " a", "a ",
        "abcdefghi", "a" * 9, "a" * 1000, "ABCDEFGH", "None", "`", "{", "z{",
    ]


def objects():
    """Objects of the package."""
    return [
        Form(), Form(BACKWARDS, 7), Piece("a", Form(), None, ["b"], True), Piece("a", Form(), "b", ["c"], False),
        Ask([]), Ask([(("a", "b"), True)]), BetweenError(), InvalidName("x"), Closed(), Failed(1, InvalidName()),
        Log(), Log([[], [Ask([(("a", "b"), True)])]]), Rules(), Rules(across=False, barred=[(("a", "a"), ("a", "b"))]),
        Story([]), Story([("a", "b")], [(0, "take", ("a", "b"))]), Disk(), Disk([("a", "b")]), Disk().reader("a"),
    ]


def plain_odd_values():
    """Values that are neither names, nor places, nor whole numbers, nor lists, nor objects of the package."""
    return [
        None, True, False, (), ("a",), ("a", "b", "c"), ("a", 1), (1, "a"), ("a", None), ("A", "b"), ("a", "B"),
        ("", "b"), ("a", ""), ("a", "abcdefghi"), ("abcdefghi", "a"), (["a"], "b"), ("a", ["b"]), (("a",), "b"),
        (("a", "b"), True), (("a", "b"), ("c", "d")), ((), ()), deep_tuple(50),
        {}, {"a": "b"}, {"a": 1, "b": 2}, {1: [2]}, {("a", "b"): True},
    ]


def whole_numbers():
    return [0, 1, -1, 2, 26, 1000, 1001, 10 ** 39, -(10 ** 39)]


def lists():
    """Lists of many kinds, among them lists of names and of places."""
    return [
        [], ["a"], ["a", "b"], ["b", "a"], ["a", "a"], ["abcdefgh"], [["a"]], [["a", "b"]], [("a", "b")], [("a", 1)],
        [1], [None], [True], [""], ["a", None], ["a", "B"], [None, "a"], [{}], [[]], [()], [("a", "b"), True],
        [["a", "b"], True], [(("a", "b"), True)], [(("a", "b"), 1)], [Form()], ["a", Form()], deep_list(50),
    ]


def names():
    return ["a", "z", "ab", "abcdefgh", "zzzzzzzz", "none"]


def places():
    return [("a", "a"), ("a", "b"), ("docs", "abcdefgh"), ("abcdefgh", "z")]


def every_value():
    """Some values of every kind, also right ones."""
    values = plain_odd_values() + whole_numbers() + odd_strings() + lists() + objects() + names() + places()
    return values + [ALPHABET, list(ALPHABET), tuple(ALPHABET)]


def no_names():
    return plain_odd_values() + whole_numbers() + odd_strings() + lists() + objects() + places() + [ALPHABET]


def no_places():
    return plain_odd_values() + whole_numbers() + odd_strings() + lists() + objects() + names() + [["a", "b"], "ab"]


def no_whole_numbers():
    values = plain_odd_values() + odd_strings() + lists() + objects() + names() + places()
    return values + ["1", "12", [1], (1,)]


def no_lists():
    return [value for value in every_value() if not isinstance(value, list)]


def not_of(*kinds):
    """Some values of every kind but these."""
    return [value for value in every_value() if not isinstance(value, kinds)]


def indexes_outside(many):
    """Values that are no indexes of so many items: numbers just outside and far out, and other kinds."""
    return [many, many + 1, many + 2, -1, -2, -many - 1, 10 ** 39, -(10 ** 39)] + no_whole_numbers()


def all_names(letters, longest):
    """All names of these letters, up to a length."""
    rows = [""]
    found = []
    for _ in range(longest):
        rows = [row + letter for row in rows for letter in letters]
        found = found + rows
    return found
