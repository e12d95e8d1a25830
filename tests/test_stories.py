"""Tests of the points [50] to [52], and of [2] as far as it concerns stories."""

import itertools
import random

from betweenlists.errors import InvalidChange, InvalidLog, InvalidNumber, InvalidRules, InvalidStory
from betweenlists.forms import Form
from betweenlists.logs import Log
from betweenlists.looks import Ask, Piece
from betweenlists.rules import Rules
from betweenlists.stories import Story
from tests.cases import Case
from tests.values import every_value, indexes_outside, no_lists, no_places, no_whole_numbers, not_of

X, Y, Z, FAR = ("a", "x"), ("a", "y"), ("a", "z"), ("b", "x")
PLACES = [X, Y, Z, FAR]
GREAT = 10 ** 29
CHANGES = [(0, "take", X), (0, "add", X), (2, "rename", Y, Z), (5, "rename", X, FAR), (5, "add", Y), (9, "take", FAR)]


def long_story():
    return Story([Y, X], CHANGES)


def rows(story):
    return [story[k] for k in range(len(story))]


def after(standing, change):
    """The set of places that stand behind a change, by the words of [50]; None if it is not possible."""
    word, places = change[1], change[2:]
    if word == "add":
        return None if places[0] in standing else standing | {places[0]}
    if word == "take":
        return standing - {places[0]} if places[0] in standing else None
    one, other = places
    if one not in standing or other in standing:
        return None
    return (standing - {one}) | {other}


def standing_at(first, changes, k):
    standing = set(first)
    for change in changes:
        if change[0] < k:
            standing = after(standing, change)
    return sorted(standing)


def chance_story(chance, gaps, many):
    """First places and changes, by chance."""
    first = [place for place in PLACES if chance.random() < 0.5]
    chance.shuffle(first)
    standing, changes = set(first), []
    for gap in sorted(chance.choices(gaps, k=many)):
        word = chance.choice(["add", "take", "rename"])
        change = (gap, word, *chance.choices(PLACES, k=2 if word == "rename" else 1))
        behind = after(standing, change)
        if behind is not None:
            standing = behind
            changes.append(change)
    return first, changes


def wrong_changes():
    """Values that are no changes, whatever stands (X and Y stand, Z and FAR do not)."""
    wrong = [
        [0, "take", X], (0, "take"), (0,), (), (0, "take", X, X), (0, "take", X, Z), (0, "add", Z, FAR), (0, "add"),
        (0, "rename", X), (0, "rename", X, Z, FAR), (0, "rename", X, [Z]), (0, "rename"), (0, "Add", Z), (0, "", Z),
        (0, "move", X, Z), (0, "remove", X), (0, "ad", Z), (0, "go", X), ("0", "take", X), (None, "take", X),
        (True, "take", X), (False, "take", X), (-1, "take", X), (-GREAT, "take", X), ("take", X), ("take", 0, X),
        ("add", Z), ("rename", X, Z), (0, ("take",), X), (0, ["take"], X), (0, None, X), (0, True, X),
        (0, "take", None), (0, "take", list(X)), (0, "take", "x"), (0, "add", ("a", "X")), (0, "rename", X, ("a", "")),
        (0, X, "take"),
        (0, "rename", (X, Z)), ((0, "take", X),), [(0, "take", X)], {0: "take"}, "take", 0, None, True,
        (0, Form(), X), (0, "take", Form()), (Story([]), "take", X),
    ]
    for value in no_places():
        wrong += [(0, "add", value), (0, "take", value), (0, "rename", value, Z), (0, "rename", X, value)]
    for value in no_whole_numbers():
        wrong.append((value, "take", X))
    for value in every_value():
        wrong += [(0, value, X), (0, value, X, Z)]
    return wrong + every_value()


def impossible_changes():
    """Changes that are not possible if X and Y stand and Z and FAR do not."""
    return [
        (0, "add", X), (0, "add", Y), (0, "take", Z), (0, "take", FAR), (0, "rename", Z, FAR), (0, "rename", FAR, X),
        (0, "rename", X, Y), (0, "rename", Y, X), (0, "rename", X, X), (0, "rename", Z, Z), (0, "rename", Z, X),
    ]


class StoriesTest(Case):
    def check_story(self, story, first, changes):
        self.assertIs(type(story), Story)
        self.assertEqual(story.first, sorted(first))
        self.assertIs(type(story.first), list)
        self.assertIs(type(len(story)), int)
        self.assertEqual(len(story), len(changes))
        self.assertEqual(rows(story), changes)
        for k in range(12):
            self.assertEqual(story.at(k), standing_at(first, changes, k))
        ever = set(first)
        for change in changes:
            ever |= set(change[2:])
        for place in PLACES:
            self.assertIs(place in story, place in ever)
        self.check_equal(story, Story(first, changes))

    def check_no_story(self, first, changes):
        for call in (lambda: Story(first, changes), lambda: Story(changes=changes, first=first)):
            self.check_raises_with(InvalidStory, (first, changes), call)

    def check_not_appended(self, story, change):
        """The change may not come there, and the story stays."""
        def call():
            nonlocal held
            held += change
        held = story
        first, changes, last = story.first, rows(story), story.at(10 ** 39)
        self.check_raises(InvalidChange, change, call)
        self.assertEqual((story.first, rows(story), story.at(10 ** 39)), (first, changes, last))


class MakingTest(StoriesTest):
    """Point [50]."""

    def test_without_changes(self):
        for first in ([], [X], [FAR, Z, Y, X]):
            for story in (Story(first), Story(first, None), Story(first, []), Story(first=first, changes=None)):
                self.check_story(story, first, [])

    def test_each_sort_of_change(self):
        self.check_story(Story([], [(0, "add", X)]), [], [(0, "add", X)])
        self.check_story(Story([X], [(0, "take", X)]), [X], [(0, "take", X)])
        self.check_story(Story([X], [(0, "rename", X, Y)]), [X], [(0, "rename", X, Y)])
        self.check_story(Story([X], [(3, "rename", X, FAR)]), [X], [(3, "rename", X, FAR)])

    def test_one_after_another(self):
        self.check_story(long_story(), [X, Y], CHANGES)
        for changes in (
            [(0, "add", Z), (0, "take", Z), (0, "add", Z)],
            [(0, "rename", X, Z), (0, "rename", Y, X), (0, "rename", Z, Y)],
            [(1, "take", X), (1, "rename", Y, X), (4, "add", Y)],
            [(0, "rename", X, FAR), (1, "rename", FAR, X), (2, "rename", X, FAR)],
            [(7, "take", X), (7, "take", Y), (8, "add", Y), (8, "rename", Y, FAR)],
        ):
            self.check_story(Story([Y, X], changes), [Y, X], changes)

    def test_changes_that_are_not_possible(self):
        for change in impossible_changes():
            self.check_no_story([X, Y], [change])
            self.check_no_story([Y, X], [(0, "add", Z), (0, "take", Z), change])

    def test_not_possible_behind_others(self):
        for changes in (
            [(0, "add", Z), (0, "add", Z)], [(0, "add", Z), (1, "add", Z)], [(0, "take", X), (0, "take", X)],
            [(0, "take", X), (0, "rename", X, Z)], [(0, "rename", X, Z), (0, "take", X)],
            [(0, "rename", X, Z), (0, "add", Z)], [(0, "rename", X, Z), (0, "rename", Y, Z)],
            [(0, "add", Z), (0, "rename", X, Z)], [(0, "rename", X, Z), (0, "rename", X, FAR)],
            [(0, "take", X), (0, "add", X), (0, "add", X)],
        ):
            self.check_no_story([X, Y], changes)

    def test_values_that_are_no_changes(self):
        for change in wrong_changes():
            self.check_no_story([X, Y], [change])
            self.check_no_story([X, Y], [(0, "add", Z), change])
            self.check_no_story([X, Y], [change, (9, "add", Z)])

    def test_gaps_that_fall(self):
        for gaps in ([1, 0], [0, 2, 1], [GREAT, GREAT - 1], [5, 0], [3, 3, 2], [0, -1], [-1, 0], [GREAT, 3]):
            self.check_no_story([], [(gap, "add", place) for gap, place in zip(gaps, PLACES)])

    def test_gaps_that_do_not_fall(self):
        for gaps in ([0, 0, 0], [0, 1, 2], [0, 0, 7], [3, 3, GREAT], [GREAT, GREAT, GREAT + 1], [10 ** 39]):
            changes = [(gap, "add", place) for gap, place in zip(gaps, PLACES)]
            self.check_story(Story([], changes), [], changes)

    def test_first_of_other_kinds(self):
        for first in no_lists() + [(), (X,), (X, Y), {X: True}, Story([X]), Log(), None, X]:
            self.check_no_story(first, [])
            self.check_no_story(first, None)
            self.check_raises_with(InvalidStory, (first, None), Story, first)
            self.check_no_story(first, [(0, "add", Z)])

    def test_first_with_other_items(self):
        for value in no_places():
            for first in ([value], [X, value], [value, X], [X, value, Y]):
                self.check_no_story(first, [])

    def test_first_places_twice(self):
        for first in ([X, X], [X, Y, X], [X, Y, Y], [FAR, X, FAR]):
            self.check_no_story(first, [])
            self.check_no_story(first, None)
            self.check_no_story(first, [(0, "take", X)])

    def test_changes_of_other_kinds(self):
        for changes in no_lists() + [(), ((0, "take", X),), (0, "take", X), {0: (0, "take", X)}, Story([X]), True]:
            if changes is not None:
                self.check_no_story([X, Y], changes)
                self.check_no_story([], changes)

    def test_both_wrong(self):
        for first, changes in itertools.product([None, (), [None], [X, X], "a"], [(), 0, [None], True, [(0, "add")]]):
            self.check_no_story(first, changes)

    def test_the_given_lists_may_change(self):
        first, changes = [Y, X], [(0, "take", X)]
        story = Story(first, changes)
        self.assertEqual((first, changes), ([Y, X], [(0, "take", X)]))
        first.append(Z)
        first[0] = FAR
        changes.append((1, "add", X))
        changes[0] = (0, "take", Y)
        self.check_story(story, [X, Y], [(0, "take", X)])
        story += (0, "take", Y)
        self.assertEqual((first, changes), ([FAR, X, Z], [(0, "take", Y), (1, "add", X)]))


class ListTest(StoriesTest):
    """Point [51]."""

    def test_first_is_a_new_list(self):
        story = Story([FAR, Z, X])
        self.assertEqual(story.first, [X, Z, FAR])
        story.first.append(Y)
        story.first.clear()
        self.assertIsNot(story.first, story.first)
        self.check_story(story, [X, Z, FAR], [])

    def test_first_stays_behind_changes(self):
        story = Story([X])
        story += (0, "take", X)
        story += (0, "add", Y)
        self.assertEqual(story.first, [X])

    def test_items(self):
        story = long_story()
        self.assertEqual(len(story), 6)
        for k, change in enumerate(CHANGES):
            self.assertEqual(story[k], change)
            self.assertIs(type(story[k]), tuple)

    def test_wrong_indexes(self):
        for story in (Story([]), Story([X, Y]), Story([X], [(0, "take", X)]), long_story()):
            for k in indexes_outside(len(story)):
                self.check_raises(InvalidNumber, k, lambda: story[k])

    def test_append(self):
        story = Story([Y, X])
        same = story
        for many, change in enumerate(CHANGES):
            story += change
            self.assertIs(story, same)
            self.check_story(story, [X, Y], CHANGES[:many + 1])

    def test_append_in_the_same_gap_and_later(self):
        for gap in (0, 1, GREAT):
            story = Story([X], [(0, "take", X)])
            story += (gap, "add", X)
            self.check_story(story, [X], [(0, "take", X), (gap, "add", X)])
            story += (gap, "rename", X, Y)
            self.check_story(story, [X], [(0, "take", X), (gap, "add", X), (gap, "rename", X, Y)])

    def test_append_what_is_no_change(self):
        for change in wrong_changes() + impossible_changes():
            self.check_not_appended(Story([X, Y]), change)
        for change in wrong_changes()[:60] + impossible_changes():
            self.check_not_appended(Story([X, Z], [(0, "rename", Z, Y)]), change)

    def test_append_in_an_earlier_gap(self):
        for gap, earlier in [(1, 0), (7, 6), (7, 0), (GREAT, GREAT - 1), (GREAT, 0)]:
            self.check_not_appended(Story([X], [(gap, "take", X)]), (earlier, "add", X))
            self.check_not_appended(Story([X], [(gap, "take", X)]), (earlier, "add", Y))
            self.check_not_appended(Story([X], [(0, "take", X), (gap, "add", X)]), (earlier, "add", Y))
        for earlier in range(9):
            self.check_not_appended(long_story(), (earlier, "add", X))

    def test_append_what_is_not_possible_behind_the_others(self):
        for change in [(9, "add", Y), (9, "take", X), (9, "take", FAR), (9, "rename", FAR, Y), (9, "rename", X, FAR)]:
            self.check_not_appended(long_story(), change)
        story = long_story()
        self.check_not_appended(story, (9, "take", X))
        story += (9, "add", X)
        self.check_not_appended(story, (9, "add", X))
        story += (9, "rename", X, FAR)
        self.check_not_appended(story, (9, "take", X))
        self.check_story(story, [X, Y], CHANGES + [(9, "add", X), (9, "rename", X, FAR)])

    def test_equal(self):
        self.check_equal(Story([X, Y]), Story([Y, X]))
        self.check_equal(long_story(), Story([X, Y], list(CHANGES)))
        story = Story([X])
        story += (0, "take", X)
        self.check_equal(story, Story([X], [(0, "take", X)]))
        self.check_unequal(story, Story([X]))

    def test_unequal(self):
        stories = [
            Story([]), Story([X]), Story([X, Y]), Story([X], [(0, "take", X)]), Story([X], [(1, "take", X)]),
            Story([X, Y], [(0, "take", X)]), Story([X, Y], [(0, "take", Y)]),
            Story([X, Y], [(0, "take", X), (0, "take", Y)]), Story([X, Y], [(0, "take", Y), (0, "take", X)]),
            Story([], [(0, "add", X)]), Story([X], [(0, "rename", X, Y)]), Story([Y], [(0, "rename", Y, X)]),
            Story([X], [(0, "take", X), (0, "add", Y)]), Story([X], [(0, "add", Y), (0, "take", X)]),
        ]
        for one, other in itertools.combinations(stories, 2):
            self.check_unequal(one, other)

    def test_not_equal_to_other_objects(self):
        for story in (Story([]), long_story()):
            for value in not_of(Story) + [CHANGES, ([X, Y], CHANGES), ([], []), [], None]:
                self.check_unequal(story, value)

    def test_places_in_a_story(self):
        story = Story([X], [(0, "rename", X, Y), (3, "take", Y), (3, "add", FAR)])
        for place, wanted in [(X, True), (Y, True), (FAR, True), (Z, False), (("x", "a"), False), (("b", "y"), False)]:
            self.assertIs(place in story, wanted)
            self.assertIs(place not in story, not wanted)
        story += (3, "rename", FAR, Z)
        self.assertIs(Z in story, True)
        self.assertIs(FAR in story, True)

    def test_other_values_in_a_story(self):
        for story in (Story([]), Story([X]), long_story()):
            for value in no_places() + [list(X), "x", "a", (0, "take", X), [X], X + X, (X,), 0]:
                self.assertIs(value in story, False)

    def test_at(self):
        story = Story([Y, X], [(0, "take", X), (2, "rename", Y, FAR), (2, "add", Z), (5, "add", X)])
        for k, wanted in [
            (0, [X, Y]), (1, [Y]), (2, [Y]), (3, [Z, FAR]), (4, [Z, FAR]), (5, [Z, FAR]), (6, [X, Z, FAR]),
            (7, [X, Z, FAR]), (10 ** 39, [X, Z, FAR]),
        ]:
            self.assertEqual(story.at(k), wanted)
            self.assertEqual(story.at(k=k), wanted)
        for k in range(3):
            self.assertEqual(Story([FAR, X]).at(k), [X, FAR])
            self.assertEqual(Story([]).at(k), [])

    def test_at_with_great_gaps(self):
        story = Story([X], [(GREAT, "take", X), (GREAT + 1, "add", Y)])
        for k, wanted in [(0, [X]), (GREAT, [X]), (GREAT + 1, []), (GREAT + 2, [Y]), (GREAT + 3, [Y])]:
            self.assertEqual(story.at(k), wanted)

    def test_at_returns_a_new_list(self):
        story = Story([X, Y])
        story.at(0).append(Z)
        story.at(1).clear()
        self.assertEqual((story.at(0), story.at(1), story.first), ([X, Y], [X, Y], [X, Y]))
        self.assertIsNot(story.at(0), story.at(0))

    def test_at_raises(self):
        for story in (Story([]), long_story()):
            for k in [-1, -2, -GREAT, True, False] + no_whole_numbers():
                self.check_raises(InvalidNumber, k, story.at, k)

    def test_by_chance(self):
        for seed in range(200):
            chance = random.Random(seed)
            first, changes = chance_story(chance, range(6), 12)
            self.check_story(Story(first, changes), first, changes)
            grown = Story(first)
            for change in changes:
                grown += change
            self.check_story(grown, first, changes)


def look_is_right(look, standing):
    """Whether the look says of all places just what is so, by the words of [52]."""
    return all(look.says(place) in (None, place in standing) for place in PLACES + [("a", "b"), ("b", "y"), ("c", "x")])


def expected_fits(first, changes, moments):
    if any(change[0] > len(moments) - 2 for change in changes):
        return False
    return all(
        look_is_right(look, standing_at(first, changes, k)) for k, looks in enumerate(moments) for look in looks
    )


class FitsTest(StoriesTest):
    """Point [52]: `fits`."""

    def check_fits(self, first, changes, moments, wanted):
        self.assertEqual(expected_fits(first, changes, moments), wanted)
        self.assertIs(Story(first, changes).fits(Log(moments)), wanted)
        self.assertIs(Story(first, changes).fits(log=Log(moments)), wanted)

    def test_one_moment(self):
        piece = Piece("a", Form(), None, ["x", "y"], False)
        for first, looks, wanted in [
            ([X], [Ask([(X, True)])], True), ([], [Ask([(X, True)])], False), ([X], [Ask([(X, False)])], False),
            ([], [Ask([(X, False)])], True), ([Y], [Ask([(X, False), (Y, True)])], True), ([Y], [Ask([])], True),
            ([X, Y], [Ask([(X, False), (Y, True)])], False), ([X, Y], [piece], True), ([X, Y, Z, FAR], [piece], True),
            ([X], [piece], False), ([X, Y, ("a", "b")], [piece], False), ([X, Y, ("a", "xx")], [piece], False),
            ([X, Y], [piece, Ask([(Z, True)])], False), ([X, Y, Z], [piece, Ask([(Z, True)])], True),
            ([], [Piece("a", Form(), "x", [], True)], True), ([X], [Piece("a", Form(), "x", [], True)], True),
            ([X, Y], [Piece("a", Form(), "x", [], True)], False), ([FAR], [Piece("a", Form(), None, [], True)], True),
            ([X, Y], [], True),
        ]:
            story = Story(first)
            self.assertIs(story.fits(Log([looks])), wanted)

    def test_right_and_wrong_at_each_moment(self):
        changes = [(0, "take", X), (2, "rename", Y, Z)]
        truth = [[X, Y], [Y], [Y], [Z]]
        right = [[Ask([(place, place in standing) for place in PLACES])] for standing in truth]
        self.check_fits([X, Y], changes, right, True)
        for k, place in itertools.product(range(4), PLACES):
            wrong = [Ask([(other, (other in truth[k]) != (other == place)) for other in PLACES])]
            self.check_fits([X, Y], changes, right[:k] + [wrong] + right[k + 1:], False)
            self.check_fits([X, Y], changes, right[:k] + [right[k] + wrong] + right[k + 1:], False)
            self.check_fits([X, Y], changes, right[:k] + [wrong + right[k]] + right[k + 1:], False)
            self.check_fits([X, Y], changes, right[:k] + [right[k] * 2] + right[k + 1:], True)
            self.check_fits([X, Y], changes, right[:k] + [[]] + right[k + 1:], True)

    def test_changes_in_gaps_of_no_log(self):
        for many in range(5):
            for gap in (0, 1, 2, 3, 4, GREAT):
                self.check_fits([X], [(gap, "take", X)], [[]] * many, gap <= many - 2)
                self.check_fits([], [(0, "add", Y), (gap, "add", X)], [[]] * many, gap <= many - 2)

    def test_within_a_gap_anything_may_happen(self):
        changes = [(0, "take", X), (0, "add", X), (0, "rename", X, FAR), (0, "rename", FAR, X)]
        self.check_fits([X], changes, [[Ask([(X, True), (FAR, False)])]] * 2, True)

    def test_logs_that_clash(self):
        clash = [Ask([(X, True)]), Ask([(X, False)])]
        for first in ([], [X]):
            for looks in (clash, clash[::-1]):
                self.check_fits(first, [], [looks], False)
                self.check_fits(first, [], [[], looks, []], False)

    def test_logs_without_moments(self):
        self.check_fits([], [], [], True)
        self.check_fits([X, FAR], [], [], True)
        self.check_fits([X], [(0, "take", X)], [], False)

    def test_fits_behind_edits(self):
        log, story = Log([[Ask([(X, True)])], []]), Story([X])
        self.assertIs(story.fits(log), True)
        log[1] = [Ask([(X, False)])]
        self.assertIs(story.fits(log), False)
        story += (0, "take", X)
        self.assertIs(story.fits(log), True)
        story += (1, "add", X)
        self.assertIs(story.fits(log), False)
        log += []
        self.assertIs(story.fits(log), True)

    def test_fits_changes_nothing(self):
        story, log = long_story(), Log([[Ask([(X, True)])], []])
        story.fits(log)
        self.check_story(story, [X, Y], CHANGES)
        self.check_equal(log, Log([[Ask([(X, True)])], []]))

    def test_fits_raises(self):
        for story in (Story([]), long_story()):
            for value in not_of(Log) + [None, [], [[]], [[Ask([])]], Log]:
                self.check_raises(InvalidLog, value, story.fits, value)

    def chance_looks(self, chance, standing):
        """Some looks, most of them right."""
        looks = []
        for _ in range(chance.randint(0, 2)):
            names = [name for folder, name in standing if folder == "a"]
            if chance.random() < 0.1:
                names = names[1:]
            ended = not names or chance.random() < 0.5
            looks.append(Piece("a", Form(), None, names, ended))
            asked = chance.sample(PLACES, 2)
            looks.append(Ask([(place, (place in standing) != (chance.random() < 0.05)) for place in asked]))
        return looks

    def test_by_chance(self):
        seen = []
        for seed in range(300):
            chance = random.Random(seed)
            first, changes = chance_story(chance, range(4), 6)
            moments = [self.chance_looks(chance, standing_at(first, changes, k)) for k in range(chance.randint(4, 6))]
            wanted = expected_fits(first, changes, moments)
            self.assertIs(Story(first, changes).fits(Log(moments)), wanted)
            seen.append(wanted)
        self.assertGreater(min(seen.count(True), seen.count(False)), 50)


class AllowedTest(StoriesTest):
    """Point [52]: `allowed`."""

    def test_allowed(self):
        one = Story([X, Y], [(0, "rename", X, Z), (1, "take", Z), (1, "add", X)])
        two = Story([X, Y], [(0, "rename", X, Z), (1, "rename", Y, FAR)])
        bars = Rules(barred=[(X, Z)])
        for story, rules, wanted in [
            (one, Rules(), True), (one, Rules(across=False), True), (one, bars, False), (one, None, True),
            (one, Rules(barred=[(Z, X)]), True), (one, Rules(across=False, barred=[(X, Z)]), False),
            (two, Rules(), True), (two, Rules(across=False), False), (two, bars, False), (two, None, True),
            (two, Rules(barred=[(Y, FAR)]), False), (two, Rules(barred=[(FAR, Y), (Z, X), (X, Y), (Y, X)]), True),
            (Story([]), bars, True), (Story([X], [(0, "take", X), (0, "add", Z)]), bars, True),
        ]:
            self.assertIs(story.allowed(rules), wanted)
            self.assertIs(story.allowed(rules=rules), wanted)

    def test_behind_append(self):
        story, bars = Story([X]), Rules(across=False)
        story += (0, "rename", X, Y)
        self.assertIs(story.allowed(bars), True)
        story += (0, "rename", Y, FAR)
        self.assertIs(story.allowed(bars), False)

    def test_allowed_raises(self):
        for story in (Story([]), long_story()):
            for value in not_of(Rules) + [True, [], {}, (True, []), Rules]:
                if value is not None:
                    self.check_raises(InvalidRules, value, story.allowed, value)


class TurnedTest(StoriesTest):
    """Point [52]: `turned`."""

    def test_each_sort_of_change(self):
        for first, change, last, opposite in [
            ([Y], "add", [X, Y], "take"), ([X, Y], "take", [Y], "add"),
        ]:
            story = Story(first, [(0, change, X)])
            self.check_story(story.turned(2), last, [(0, opposite, X)])
            self.check_story(story.turned(5), last, [(3, opposite, X)])
        story = Story([X, FAR], [(2, "rename", X, Z)])
        self.check_story(story.turned(4), [Z, FAR], [(0, "rename", Z, X)])
        self.check_story(story.turned(moments=9), [Z, FAR], [(5, "rename", Z, X)])

    def test_all_together(self):
        self.check_story(long_story().turned(11), [Y, Z], [
            (0, "add", FAR), (4, "take", Y), (4, "rename", FAR, X), (7, "rename", Z, Y), (9, "take", X), (9, "add", X),
        ])

    def test_without_changes(self):
        for moments in (1, 2, 30, 10 ** 39):
            self.check_story(Story([Y, X]).turned(moments), [X, Y], [])

    def test_great_gaps(self):
        story = Story([X], [(0, "take", X), (GREAT, "add", Y)])
        self.check_story(story.turned(GREAT + 2), [Y], [(0, "take", Y), (GREAT, "add", X)])
        self.check_story(story.turned(10 ** 39), [Y], [(10 ** 39 - 2 - GREAT, "take", Y), (10 ** 39 - 2, "add", X)])
        self.check_raises(InvalidNumber, 2, story.turned, 2)

    def test_the_story_stays(self):
        story = long_story()
        turned = story.turned(11)
        turned += (20, "take", X)
        self.check_story(story, [X, Y], CHANGES)
        story += (9, "add", X)
        self.assertEqual(len(turned), 7)
        plain = Story([X])
        turned = plain.turned(1)
        turned += (0, "take", X)
        self.check_story(plain, [X], [])

    def test_least_number_of_moments(self):
        for gap in (0, 1, 5, GREAT):
            story = Story([X], [(0, "take", X), (gap, "add", X)])
            self.check_story(story.turned(gap + 2), [X], [(0, "take", X), (gap, "add", X)])
            for moments in (gap + 1, gap, 0, -1, -GREAT):
                self.check_raises(InvalidNumber, moments, story.turned, moments)

    def test_turned_raises(self):
        for story in (Story([]), Story([X]), long_story()):
            for moments in [0, -1, -2, -GREAT, True, False] + no_whole_numbers():
                self.check_raises(InvalidNumber, moments, story.turned, moments)
        for moments in range(11):
            self.check_raises(InvalidNumber, moments, long_story().turned, moments)

    def test_by_chance(self):
        for seed in range(200):
            chance = random.Random(seed)
            first, changes = chance_story(chance, range(6), 10)
            story, moments = Story(first, changes), chance.randint(7, 9)
            turned = story.turned(moments)
            for k in range(moments):
                self.assertEqual(turned.at(k), story.at(moments - 1 - k))
            self.assertEqual([change[0] for change in rows(turned)], [moments - 2 - gap for gap, *_ in changes[::-1]])
            self.check_equal(turned.turned(moments), story)
            log = Log([[Ask([(place, place in story.at(k)) for place in PLACES])] for k in range(moments)])
            self.assertIs(turned.fits(log.turned()), True)
            rules = Rules(across=chance.random() < 0.5, barred=[tuple(chance.choices(PLACES, k=2))])
            self.assertIs(turned.allowed(rules.turned()), story.allowed(rules))
