"""Tests of the points [70] and [71], and of [2] as far as it concerns gaps."""

import itertools
import random

from betweenlists.demands import demands
from betweenlists.errors import InvalidList, InvalidLog, InvalidRules
from betweenlists.fewest import fewest, story_of
from betweenlists.gaps import busy, disjoint, story_in
from betweenlists.logs import Log
from betweenlists.looks import Ask
from betweenlists.rules import Rules
from betweenlists.stories import Story
from tests.cases import Case
from tests.search import Search
from tests.values import indexes_outside, no_lists, not_of
from tests.worlds import FAR, PLACES, SPARE, chance_case, log_of, wrong_log

X, Y, Z, B = PLACES
NEAR = Rules(across=False)
FREE = Rules()
CLASH = [Ask([(X, True)]), Ask([(X, False)])]


def window(row):
    return set(range(row[1], row[2]))


def all_lists(many):
    """All ascending lists of different numbers below this one, the shorter ones first."""
    return [list(row) for size in range(many + 1) for row in itertools.combinations(range(many), size)]


def gaps_of(story):
    return [story[k][0] for k in range(len(story))]


class BusyTest(Case):
    """Point [70]."""

    def check_busy(self, log, wanted):
        """So many gaps are enough, and so many demands show that no fewer are."""
        before = log.copy()
        gaps, rows = busy(log), disjoint(log)
        for found in (gaps, rows):
            self.assertIs(type(found), list)
            self.assertEqual(len(found), wanted)
        self.assertEqual(gaps, sorted(set(gaps)))
        self.assertTrue(all(type(gap) is int and 0 <= gap < len(log) - 1 for gap in gaps))
        story = story_in(log, gaps)
        self.assertIs(story.fits(log), True)
        self.assertLessEqual(set(gaps_of(story)), set(gaps))
        self.assertLessEqual(set(rows), set(demands(log)))
        for one, other in itertools.combinations(rows, 2):
            self.assertEqual(window(one) & window(other), set())
        self.assertEqual((busy(log=log), disjoint(log=log)), (gaps, rows))
        self.check_equal(log, before)

    def test_no_demands(self):
        for log in (
            Log(), Log([[]]), Log([[], []]), log_of({X: "+"}), log_of({X: "++.+", Y: "-..-"}),
            log_of({X: "+...", Y: "...-"}),
        ):
            self.check_busy(log, 0)
            self.assertEqual((busy(log), disjoint(log)), ([], []))

    def test_one_demand(self):
        for signs in ("+-", "-+", "+...-", ".-..+.", "++--"):
            self.check_busy(log_of({X: signs}), 1)
        self.assertEqual(busy(log_of({X: ".+-."})), [1])
        self.assertEqual(disjoint(log_of({X: ".+.-"})), [(X, 1, 3, "go")])

    def test_windows_within_one_another(self):
        self.check_busy(log_of({X: "+....-", Y: ".+..-.", Z: "..-+.."}), 1)
        self.assertEqual(busy(log_of({X: "+....-", Y: ".+..-.", Z: "..-+.."})), [2])
        self.check_busy(log_of({X: "+....-", Y: "+-....", Z: "....-+"}), 2)

    def test_windows_behind_one_another(self):
        self.check_busy(log_of({X: "+-...", Y: ".+-..", Z: "..+.-"}), 3)
        self.assertEqual(busy(log_of({X: "+-..", Y: ".-+.", Z: "..-+"})), [0, 1, 2])
        self.check_busy(log_of({X: "+-+-+-+"}), 6)
        self.check_busy(log_of({X: "+..-..+", Y: "...+-.."}), 2)

    def test_windows_that_overlap_like_a_chain(self):
        self.check_busy(log_of({X: "+.-....", Y: ".+.-...", Z: "..+.-.."}), 2)
        rows = {("a", letter): "." * k + "+.-" + "." * (5 - k) for k, letter in enumerate("abcdef")}
        self.check_busy(log_of(rows), 3)
        rows = {("a", letter): "." * k + "-...+" + "." * (8 - k) for k, letter in enumerate("abcdefghi")}
        self.check_busy(log_of(rows), 3)

    def test_one_gap_is_enough_only_in_some_orders(self):
        # The window that ends first does not begin first.
        self.check_busy(log_of({X: "+....-.", Y: "..+-...", Z: ".+...-.", B: "...+..-"}), 2)

    def test_rules_do_not_matter(self):
        log = log_of({X: "+-.", Y: "-+.", FAR: ".+-"})
        self.check_busy(log, 2)

    def test_by_chance(self):
        chance = random.Random()
        found = []
        for seed in range(120):
            _, story, log = chance_case(seed, chance, 6)
            gaps = [row for row in all_lists(len(log) - 1) if Search(log, PLACES, gaps=row).fewest() is not None]
            self.check_busy(log, len(gaps[0]))
            self.assertLessEqual(len(gaps[0]), len(set(gaps_of(story))))
            found.append(len(gaps[0]))
        self.assertGreater(len([many for many in found if many > 1]), 30)

    def test_logs_that_clash(self):
        chance = random.Random()
        logs = [wrong_log(chance, chance_case(seed, chance)[2]) for seed in range(20)]
        for log in [Log([CLASH]), Log([[], CLASH, []])] + [log for log in logs if log is not None]:
            self.assertIs(busy(log), None)
            self.assertIs(disjoint(log), None)

    def test_new_lists_each_time(self):
        log = log_of({X: "+-+", Y: "-+."})
        busy(log).clear()
        disjoint(log).clear()
        self.check_busy(log, 2)
        log[2] = []
        self.check_busy(log, 1)

    def test_no_logs(self):
        for value in not_of(Log) + [[], [[]], Log]:
            for call in (busy, disjoint):
                self.check_raises(InvalidLog, value, call, value)


class StoryInTest(Case):
    """Point [71]."""

    def check_story_in(self, log, gaps, wanted, **named):
        """The story has so many changes, or there is none for None."""
        before, given = log.copy(), list(gaps)
        story = story_in(log, gaps, **named)
        self.check_equal(log, before)
        self.assertEqual(gaps, given)
        if wanted is None:
            self.assertIs(story, None)
            return
        self.assertIs(type(story), Story)
        self.assertIs(story.fits(log), True)
        self.assertIs(story.allowed(named.get("rules")), True)
        self.assertLessEqual(set(gaps_of(story)), set(gaps))
        self.assertEqual(len(story), wanted)
        self.check_equal(story, story_in(log=log, gaps=gaps, **named))

    def joined(self, log, gaps):
        """The log with the moments around each other gap joined."""
        for gap in range(len(log) - 2, -1, -1):
            if gap not in gaps:
                log = log.joined(gap)
        return log

    def test_all_gaps(self):
        for rows in ({X: "+-+-", Y: "-+.-"}, {X: "+..-", Y: "-+-."}, {X: "+++-", B: "-..+"}):
            log = log_of(rows)
            for rules in (None, FREE, NEAR):
                self.check_story_in(log, [0, 1, 2], fewest(log, rules=rules), rules=rules)

    def test_few_gaps(self):
        log = log_of({X: "+..-", Y: "-+..", Z: "..-+"})
        self.check_story_in(log, [0, 1, 2], 2)
        self.check_story_in(log, [0, 2], 2)
        for gaps in ([], [0], [1], [2], [0, 1], [1, 2]):
            self.check_story_in(log, gaps, None)

    def test_fewest_gaps_take_more_changes(self):
        # Both windows of the goings reach to gap 1, but there alone only one of them can be the coming.
        log = log_of({X: "+.-.", Y: ".+.-", Z: "-+..", B: "..-+"})
        self.check_story_in(log, [0, 1, 2], 2)
        self.check_story_in(log, [0, 2], 2)
        self.check_story_in(log, [1, 2], None)
        log = log_of({X: "+.-", Y: "+.-", Z: "-+.", B: ".-+"})
        self.check_story_in(log, [0, 1], 2)
        for gaps in ([0], [1]):
            self.check_story_in(log, gaps, None)
        log = log_of({X: "+..-.", Y: ".-..+", Z: "+-..."})
        self.assertEqual(fewest(log), 2)
        self.check_story_in(log, [0, 1], 2)
        self.check_story_in(log, [0, 3], 3)

    def test_gaps_in_which_nothing_needs_to_happen(self):
        log = log_of({X: "..+-..", Y: "++-...", Z: "-....."})
        self.check_story_in(log, [1, 2], 2)
        self.check_story_in(log, [0, 1, 2, 3, 4], 2)
        self.check_story_in(log, [0, 1, 2], 2)
        self.check_story_in(log, [1, 2, 4], 2)
        self.check_story_in(log, [0, 3, 4], None)
        self.check_story_in(log_of({X: "+++"}), [0], 0)
        self.check_story_in(log_of({X: "+++"}), [0, 1], 0)

    def test_no_gap(self):
        for log in (Log(), Log([[]]), Log([[], []]), log_of({X: "+"}), log_of({X: "+.+", Y: ".-."})):
            self.check_story_in(log, [], 0)
        self.check_story_in(log_of({X: "+-"}), [], None)

    def test_rules(self):
        log = log_of({X: "+.-", Y: "-.+", B: ".-+"})
        self.check_story_in(log, [1], 2)
        self.check_story_in(log, [0], None)
        self.check_story_in(log, [1], 3, rules=Rules(barred=[(X, Y), (X, B)]))
        self.check_story_in(log, [1], 2, rules=Rules(barred=[(X, Y)]))
        self.check_story_in(log, [0, 1], 3, rules=Rules(across=False, barred=[(X, Y)]))
        self.check_story_in(log, [0, 1], 2, rules=Rules(barred=[(Y, X)]))

    def test_a_place_that_goes_and_comes_between(self):
        log = log_of({X: "+.-.+", Y: "-.+.-"})
        self.check_story_in(log, [0, 3], 2)
        self.check_story_in(log, [1, 2], 2)
        self.check_story_in(log, [1], None)
        self.check_story_in(log, [0, 1], None)

    def test_by_chance(self):
        chance = random.Random()
        none, more = 0, 0
        for seed in range(100):
            rules, story, log = chance_case(seed, chance, 6)
            lists = all_lists(len(log) - 1)
            wider = [sorted(set(busy(log) + [gap])) for gap in range(len(log) - 1)]
            for gaps in chance.sample(lists, min(len(lists), 5)) + [busy(log)[1:]] + wider:
                wanted = Search(log, PLACES + [SPARE], rules=rules, gaps=gaps).fewest()
                self.check_story_in(log, gaps, wanted, rules=rules)
                self.assertEqual(fewest(self.joined(log, gaps), rules=rules), wanted)
                none += wanted is None
                more += wanted is not None and wanted > fewest(log, rules=rules)
            self.check_story_in(log, list(range(len(log) - 1)), fewest(log, rules=rules), rules=rules)
            happened = sorted(set(gaps_of(story)))
            self.assertLessEqual(len(story_in(log, happened, rules=rules)), len(story))
            if busy(log):
                self.assertIs(story_in(log, busy(log)[:-1], rules=rules), None)
        self.assertGreater(none, 100)
        self.assertGreater(more, 0)

    def test_logs_that_clash(self):
        for log in (Log([CLASH, [], []]), Log([[], [], CLASH]), log_of({X: "+-.", Y: ".+-"}).also(1, Ask([(X, True)]))):
            for gaps in all_lists(2):
                self.check_story_in(log, gaps, None)
                self.check_story_in(log, gaps, None, rules=NEAR)

    def test_a_new_story_each_time(self):
        log = log_of({X: "+-.", Y: "-+."})
        gaps = [0, 1]
        story = story_in(log, gaps)
        story += (1, "add", X)
        gaps.clear()
        self.assertEqual(len(story_in(log, [0, 1])), 1)
        self.assertEqual(len(story), 2)

    def test_no_lists(self):
        for many, log in [(0, Log()), (0, Log([[]])), (1, log_of({X: "+-"})), (4, log_of({X: "+-+-+"}))]:
            right = all_lists(many)
            wrong = [[0, 0], [1, 0], [3, 2, 1], [0, 1, 1], [0, 1, 0], [0, 2, 1], [0, [1]], [(0,)], [[0, 1]], [True]]
            wrong += [[0, True], [False], [False, 1], [0, None], [0, "1"]]
            for value in indexes_outside(many):
                wrong += [[value], [0, value], [value, 0]]
            for value in wrong + [tuple(row) for row in right] + [{0: True}, {}, {0: 0}, 0, range(1), "0", log]:
                self.check_raises(InvalidList, value, story_in, log, value)
                self.check_raises(InvalidList, value, story_in, log, value, rules=NEAR)

    def test_other_kinds(self):
        for log in (log_of({X: "+-+"}), Log(), Log([CLASH, []])):
            for value in no_lists():
                self.check_raises(InvalidList, value, story_in, log, value)

    def test_no_logs(self):
        for value in not_of(Log) + [[], [[]], Log]:
            self.check_raises(InvalidLog, value, story_in, value, [])

    def test_no_rules(self):
        for log in (log_of({X: "+-+"}), Log([CLASH, []])):
            for value in not_of(Rules) + [Rules]:
                if value is not None:
                    self.check_raises(InvalidRules, value, story_in, log, [], rules=value)
                    self.check_raises(InvalidRules, value, story_in, log, [0], rules=value)

    def test_order_of_the_errors(self):
        log, wrong, gaps, rules = log_of({X: "+-+"}), [[]], [2], [Rules()]
        self.check_raises(InvalidLog, wrong, story_in, wrong, gaps)
        self.check_raises(InvalidLog, wrong, story_in, wrong, [0], rules=rules)
        self.check_raises(InvalidLog, wrong, story_in, rules=rules, gaps=gaps, log=wrong)
        self.check_raises(InvalidList, gaps, story_in, log, gaps, rules=rules)
        self.check_raises(InvalidList, gaps, story_in, Log([CLASH, []]), gaps, rules=rules)

    def test_rules_only_by_name(self):
        with self.assertRaises(TypeError):
            story_in(log_of({X: "+-"}), [0], Rules())

    def test_the_same_as_for_the_whole_log(self):
        log = log_of({X: "+.-", Y: "-.+"})
        self.assertEqual(len(story_of(log)), len(story_in(log, [1])))
        self.assertEqual(gaps_of(story_in(log, [1])), [1])
