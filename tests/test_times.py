"""Tests of point [3]: what the package computes from logs, disks and texts as large as the document allows."""

import time

from betweenlists.cores import core, is_core
from betweenlists.demands import demands
from betweenlists.disks import Disk
from betweenlists.fewest import apart, fewest, is_apart, story_of
from betweenlists.forms import Form
from betweenlists.gaps import busy, disjoint, story_in
from betweenlists.logs import Log
from betweenlists.looks import Ask, Piece
from betweenlists.renamings import always_renamed, renamed, sure_renamings
from betweenlists.rules import Rules
from betweenlists.stories import Story
from betweenlists.sure import course, standing, stood
from betweenlists.texts import read_log, read_story, write_log, write_story
from tests.cases import Case
from tests.test_limits import FOLDERS, FORM, PLACES, large_log
from tests.values import ALPHABET

BARRED = [(PLACES[k], PLACES[299 - k]) for k in range(60)]
RULES = Rules(barred=BARRED)
NEAR = Rules(across=False, barred=[(PLACES[k], PLACES[k + 1]) for k in range(60)])


def dense_log():
    """30 moments; 120 places go and 120 others come in windows that nearly all meet."""
    looks = []
    for begin in range(15):
        rows = [PLACES[20 * begin + k] for k in range(16)]
        looks.append([Ask([(place, k < 8) for k, place in enumerate(rows)]), Ask([])])
    last = [[Ask([(place, not stands) for place, stands in look[0].answers]), Ask([])] for look in looks]
    return Log(looks + last)


def middling_log():
    """12 moments with 24 looks of 8 names or answers each, and 60 demands: each folder is looked at three times."""
    form = Form(ALPHABET[::-1], 999)
    names = [letter * 8 for letter in ALPHABET[:11]]
    looks = []
    for folder in FOLDERS[:8]:
        looks.append(Piece(folder, form, None, form.ordered(names[:8]), True))
    for folder in FOLDERS[:8]:
        looks.append(Piece(folder, form, None, form.ordered(names[3:]), True))
    for at, folder in enumerate(FOLDERS[:8]):
        gone = 4 if at < 4 else 5
        looks.append(Ask([((folder, name), k >= gone) for k, name in enumerate(names[:8])]))
    return Log([looks[2 * k:2 * k + 2] for k in range(12)])


class TimesTest(Case):
    def within(self, seconds, call, *args, **named):
        start = time.perf_counter()
        result = call(*args, **named)
        self.assertLess(time.perf_counter() - start, seconds)
        return result

    def check_fewest(self, log, rules):
        many = self.within(3, fewest, log, rules=rules)
        story = self.within(3, story_of, log, rules=rules)
        rows = self.within(3, apart, log, rules=rules)
        self.assertEqual((len(story), len(rows)), (many, many))
        self.assertIs(story.fits(log) and story.allowed(rules), True)
        self.assertIs(self.within(3, is_apart, log, rows, rules=rules), True)
        self.assertIs(self.within(3, is_apart, log, demands(log), rules=rules), many == len(demands(log)))
        return many

    def test_fewest(self):
        log = large_log()
        self.assertEqual((len(demands(log)), len(log.places())), (240, 300))
        for rules in (None, RULES, NEAR):
            self.assertTrue(120 <= self.check_fewest(log, rules) <= 240)

    def test_fewest_of_a_dense_log(self):
        log = dense_log()
        self.assertEqual((len(log), len(demands(log)), len(log.places())), (30, 240, 240))
        self.assertEqual(self.check_fewest(log, None), 120)
        self.assertEqual(self.check_fewest(log, RULES), 120)
        self.assertEqual(self.check_fewest(log, Rules(across=False)), 120)

    def test_gaps(self):
        for log, wanted in ((large_log(), 4), (dense_log(), 1)):
            gaps = self.within(3, busy, log)
            self.assertEqual(len(self.within(3, disjoint, log)), wanted)
            self.assertEqual(len(gaps), wanted)
            for rules in (None, RULES, NEAR):
                story = self.within(3, story_in, log, gaps, rules=rules)
                self.assertIs(story.fits(log) and story.allowed(rules), True)
                self.assertEqual(len(self.within(3, story_in, log, list(range(29)))), fewest(log))
            self.assertIs(self.within(3, story_in, log, gaps[1:]), None)
            self.assertIs(self.within(3, story_in, log, []), None)

    def test_what_is_sure(self):
        log = middling_log()
        self.assertEqual((len(log), len(demands(log))), (12, 60))
        for rules, spare in ((None, 0), (RULES, 1), (NEAR, 10 ** 39)):
            for k in (0, 6, 11):
                told = [place for look in log[k] for place in look.standing()]
                got = self.within(20, standing, log, k, spare=spare, rules=rules)
                self.assertLessEqual(set(told), set(got))
            row = self.within(20, course, log, PLACES[0], spare=spare, rules=rules)
            self.assertIs(self.within(20, stood, log, 1, PLACES[0], spare=spare, rules=rules), row[1])

    def test_renamings(self):
        log = middling_log()
        gone, come = [[row for row in demands(log) if row[3] == way] for way in ("go", "come")]
        for rules, spare in ((None, 0), (RULES, 2), (NEAR, 10 ** 39)):
            for one, other in zip(gone[::6], come[::4]):
                story = self.within(20, renamed, log, one[1], one[0], other[0], spare=spare, rules=rules)
                if story is not None:
                    self.assertIs(story.fits(log) and story.allowed(rules), True)
                self.within(20, always_renamed, log, one[0], other[0], rules=rules)
            for one, other in self.within(20, sure_renamings, log, rules=rules):
                self.assertIs(always_renamed(log, one, other, rules=rules), True)

    def test_many_sure_renamings(self):
        # Each folder has one going and one coming, and nothing is renamed across folders.
        places = [(letter, name) for letter in ALPHABET for name in ("one", "two")]
        answers = [(place, place[1] == "one") for place in places]
        looks = [Ask(answers[8 * k:8 * k + 8]) for k in range(7)]
        last = [Ask([(place, not stands) for place, stands in look.answers]) for look in looks]
        before, behind = [[row[2 * k:2 * k + 2] for k in range(4)] for row in (looks, last)]
        log = Log(before + [[], [], [], []] + behind)
        self.assertEqual((len(log), len(demands(log))), (12, 52))
        wanted = [((letter, "one"), (letter, "two")) for letter in ALPHABET]
        self.assertEqual(self.within(20, sure_renamings, log, rules=Rules(across=False)), wanted)
        self.assertEqual(self.within(20, sure_renamings, log), [])

    def test_cores(self):
        log = middling_log()
        for rules in (None, RULES, NEAR):
            moments = self.within(20, core, log, rules=rules)
            self.assertIs(self.within(20, is_core, log, moments, rules=rules), True)
            self.assertEqual(fewest(log.part(moments), rules=rules), fewest(log, rules=rules))
            self.assertIs(self.within(20, is_core, log, list(range(12)), rules=rules), len(moments) == 12)

    def large_disk(self):
        """A disk with 200 places in 60 folders, to which 300 changes happen between 30 moments."""
        folders = [one + other for one in "abcdefgh" for other in "abcdefgh"][:60]
        places = [(folder, name * 8) for name in "abcd" for folder in folders][:200]
        disk = Disk(places, rules=Rules(barred=BARRED))
        for k, folder in enumerate(folders):
            disk[folder] = Form(ALPHABET[::-1], k + 1)
        reader = disk.reader("aa", most=1, steady=True)
        for k in range(30):
            if k and not reader.ended:
                reader.read()
            elif k % 2:
                disk.ask(places[k:k + 20])
            else:
                disk.reader(folders[k], most=12).read()
            disk.make([("rename", places[k], ("z", ALPHABET[k % 26] * (1 + k // 26)))])
            disk.make([("take", place) for place in places[100 + 3 * k:103 + 3 * k]])
            disk.make([("add", place) for place in places[100 + 3 * k:103 + 3 * k]])
            for _ in range(3):
                disk.back()
        return disk

    def test_disks(self):
        disk = self.within(3, self.large_disk)
        self.assertEqual((len(disk.log), disk.made), (30, 300))
        copy = self.within(3, disk.copy)
        self.assertIs(disk.story().fits(disk.log), True)
        self.check_equal(copy.story(), disk.story())
        self.assertLessEqual(self.within(3, fewest, disk.log, rules=disk.rules), disk.made)
        self.assertEqual(len(self.within(3, copy.whole, "z")), 30)
        there = copy.standing()
        changes = [("take", place) for place in there] + [("add", place) for place in there[::-1]]
        self.within(3, copy.make, changes)
        self.assertEqual((copy.standing(), copy.made), (there, 300 + 2 * len(there)))

    def test_texts(self):
        log = large_log()
        text = self.within(3, write_log, log)
        self.check_equal(self.within(3, read_log, text), log)
        start = 10 ** 39
        changes = [(start + k // 2, "take" if k % 2 else "add", ("zzzzzzzz", "zzzzzzzz")) for k in range(399)]
        story = Story(PLACES, changes)
        text = self.within(3, write_story, story)
        self.assertEqual(len(text.split("\n")), 400)
        self.check_equal(self.within(3, read_story, text), story)
