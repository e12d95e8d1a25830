"""Tests of point [3]: the fewest changes, few gaps and what is sure, for logs as large as the document allows."""

import time

from betweenlists.demands import demands
from betweenlists.fewest import apart, fewest, is_apart, story_of
from betweenlists.forms import Form
from betweenlists.gaps import busy, disjoint, story_in
from betweenlists.logs import Log
from betweenlists.looks import Ask, Piece
from betweenlists.rules import Rules
from betweenlists.sure import course, standing, stood
from tests.cases import Case
from tests.test_limits import FOLDERS, FORM, PLACES, large_log
from tests.values import ALPHABET

BARRED = [(PLACES[k], PLACES[299 - k]) for k in range(60)]
RULES = Rules(barred=BARRED)
NEAR = Rules(across=False, barred=[(PLACES[k], PLACES[k + 1]) for k in range(60)])


def dense_log():
    """30 moments; 120 places go and 120 others come in windows that nearly all meet."""
    looks = []
    for begin in range(15):
        rows = [PLACES[20 * begin + k] for k in range(16)]
        looks.append([Ask([(place, k < 8) for k, place in enumerate(rows)]), Ask([])])
    last = [[Ask([(place, not stands) for place, stands in look[0].answers]), Ask([])] for look in looks]
    return Log(looks + last)


def middling_log():
    """12 moments with 24 looks of 8 names or answers each, and 60 demands: each folder is looked at three times."""
    form = Form(ALPHABET[::-1], 999)
    names = [letter * 8 for letter in ALPHABET[:11]]
    looks = []
    for folder in FOLDERS[:8]:
        looks.append(Piece(folder, form, None, form.ordered(names[:8]), True))
    for folder in FOLDERS[:8]:
        looks.append(Piece(folder, form, None, form.ordered(names[3:]), True))
    for at, folder in enumerate(FOLDERS[:8]):
        gone = 4 if at < 4 else 5
        looks.append(Ask([((folder, name), k >= gone) for k, name in enumerate(names[:8])]))
    return Log([looks[2 * k:2 * k + 2] for k in range(12)])


class TimesTest(Case):
    def within(self, seconds, call, *args, **named):
        start = time.perf_counter()
        result = call(*args, **named)
        self.assertLess(time.perf_counter() - start, seconds)
        return result

    def check_fewest(self, log, rules):
        many = self.within(3, fewest, log, rules=rules)
        story = self.within(3, story_of, log, rules=rules)
        rows = self.within(3, apart, log, rules=rules)
        self.assertEqual((len(story), len(rows)), (many, many))
        self.assertIs(story.fits(log) and story.allowed(rules), True)
        self.assertIs(self.within(3, is_apart, log, rows, rules=rules), True)
        self.assertIs(self.within(3, is_apart, log, demands(log), rules=rules), many == len(demands(log)))
        return many

    def test_fewest(self):
        log = large_log()
        self.assertEqual((len(demands(log)), len(log.places())), (240, 300))
        for rules in (None, RULES, NEAR):
            self.assertTrue(120 <= self.check_fewest(log, rules) <= 240)

    def test_fewest_of_a_dense_log(self):
        log = dense_log()
        self.assertEqual((len(log), len(demands(log)), len(log.places())), (30, 240, 240))
        self.assertEqual(self.check_fewest(log, None), 120)
        self.assertEqual(self.check_fewest(log, RULES), 120)
        self.assertEqual(self.check_fewest(log, Rules(across=False)), 120)

    def test_gaps(self):
        for log, wanted in ((large_log(), 4), (dense_log(), 1)):
            gaps = self.within(3, busy, log)
            self.assertEqual(len(self.within(3, disjoint, log)), wanted)
            self.assertEqual(len(gaps), wanted)
            for rules in (None, RULES, NEAR):
                story = self.within(3, story_in, log, gaps, rules=rules)
                self.assertIs(story.fits(log) and story.allowed(rules), True)
                self.assertEqual(len(self.within(3, story_in, log, list(range(29)))), fewest(log))
            self.assertIs(self.within(3, story_in, log, gaps[1:]), None)
            self.assertIs(self.within(3, story_in, log, []), None)

    def test_what_is_sure(self):
        log = middling_log()
        self.assertEqual((len(log), len(demands(log))), (12, 60))
        for rules, spare in ((None, 0), (RULES, 1), (NEAR, 10 ** 39)):
            for k in (0, 6, 11):
                told = [place for look in log[k] for place in look.standing()]
                got = self.within(20, standing, log, k, spare=spare, rules=rules)
                self.assertLessEqual(set(told), set(got))
            row = self.within(20, course, log, PLACES[0], spare=spare, rules=rules)
            self.assertIs(self.within(20, stood, log, 1, PLACES[0], spare=spare, rules=rules), row[1])
