"""Tests of point [3]: logs, stories and rules as large as the document allows, within seconds."""

import time

from betweenlists.demands import can_be_one, demands
from betweenlists.forms import Form
from betweenlists.logs import Log
from betweenlists.looks import Ask, Piece
from betweenlists.rules import Rules
from betweenlists.stories import Story
from tests.cases import Case
from tests.values import ALPHABET

SECONDS = 5
NAMES = [letter * 8 for letter in ALPHABET[:20]]
FOLDERS = [letter * 8 for letter in ALPHABET[:15]]
PLACES = [(folder, name) for folder in FOLDERS for name in NAMES]
FORM = Form(ALPHABET[::-1], 1000)
SPARE = ("zzzzzzzz", "zzzzzzzz")


def large_log():
    """30 moments with 60 looks: each folder is read four times, every other time without five or six of its names."""
    log = Log()
    for k in range(30):
        looks = []
        for at in (2 * k, 2 * k + 1):
            fewer = NAMES[:14] if at % 15 < 5 else NAMES[:15]
            names = NAMES if at // 15 in (0, 2) else fewer
            looks.append(Piece(FOLDERS[at % 15], FORM, None, FORM.ordered(names), True))
        log += looks
    return log


def changes_of(log):
    """400 changes: those that the log asks for, and renamings there and back."""
    changes = []
    for place, begin, _, way in demands(log):
        changes.append((begin, "take" if way == "go" else "add", place))
    first = ("aaaaaaaa", "aaaaaaaa")
    while len(changes) < 400:
        changes += [(28, "rename", first, SPARE), (28, "rename", SPARE, first)]
    return sorted(changes, key=lambda change: change[0])


class LimitsTest(Case):
    def setUp(self):
        self.log = large_log()
        self.changes = changes_of(self.log)
        self.start = time.perf_counter()

    def tearDown(self):
        self.assertLess(time.perf_counter() - self.start, SECONDS)

    def test_log(self):
        log = self.log
        self.assertEqual((len(log), sum(len(log[k]) for k in range(30))), (30, 60))
        self.assertEqual(log.places(), PLACES)
        self.assertIs(log.clash(), None)
        for place in PLACES:
            self.assertEqual([log.says(k, place) for k in range(30)].count(None), 26)
        self.check_equal(log, log.copy())
        self.check_equal(log.turned().turned(), log)
        self.check_equal(log.part(list(range(15))) + log.part(list(range(15, 30))), log)
        self.assertEqual(len(log.inserted(30, log[0])), 31)
        self.assertEqual(len(log.joined(28)[28]), 4)
        self.assertEqual(len(log.also(29, Ask([]))[29]), 3)

    def test_clash_at_the_very_end(self):
        log = self.log.copy()
        log[29] = log[29] + [Ask([(("oooooooo", "oooooooo"), False)])]
        self.assertEqual(log.clash(), (29, ("oooooooo", "oooooooo")))
        self.assertIs(demands(log), None)

    def test_all_looks_at_one_moment(self):
        log = Log([[Piece(FOLDERS[at % 15], FORM, None, FORM.ordered(NAMES), True) for at in range(60)]])
        self.assertIs(log.clash(), None)
        self.assertEqual(log.places(), PLACES)
        self.assertEqual(demands(log), [])
        self.assertIs(Story(PLACES).fits(log), True)

    def test_demands(self):
        got = demands(self.log)
        self.assertEqual(len(got), 240)
        self.assertEqual(got, sorted(got))
        pairs = [(one, other) for one in got for other in got]
        rules = Rules(barred=self.barred())
        self.assertGreater(len([pair for pair in pairs if can_be_one(*pair, rules=rules)]), 1000)

    def barred(self):
        return [(PLACES[k], PLACES[299 - k]) for k in range(60)]

    def test_rules(self):
        one = Rules(barred=self.barred())
        other = Rules(across=False, barred=[(PLACES[20 * k], PLACES[20 * k + 1]) for k in range(15)] * 4)
        self.assertEqual((len(one.barred), len(other.barred)), (60, 15))
        allowed = [(place, to) for place in PLACES for to in PLACES if one(place, to)]
        self.assertEqual(len(allowed), 300 * 299 - 60)
        both, either = one & other, one | other
        self.assertEqual((both.across, either.across), (False, True))
        self.assertIs(both.within(one) and both.within(other) and one.within(either) and other.within(either), True)
        self.check_equal(either.turned().turned(), either)

    def test_story(self):
        first = self.first()
        story = Story(first, self.changes)
        self.assertEqual((len(story.first), len(story)), (300, 400))
        grown = Story(first)
        for change in self.changes:
            grown += change
        self.check_equal(story, grown)
        self.assertEqual(len(story.at(30)), 300 - 80)
        self.assertIs(SPARE in story, True)
        self.assertIs(("z", "z") in story, False)
        self.assertIs(story.fits(self.log), True)
        self.assertIs(story.fits(self.log.turned()), False)
        self.assertIs(story.allowed(Rules(barred=self.barred())), True)
        self.assertIs(story.allowed(Rules(across=False)), False)
        turned = story.turned(30)
        self.assertIs(turned.fits(self.log.turned()), True)
        self.check_equal(turned.turned(30), story)

    def first(self):
        return list(reversed(PLACES))
