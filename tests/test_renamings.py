"""Tests of the points [90] and [91], and of [2] and [80] as far as they concern renamings."""

import itertools
import random

from betweenlists.errors import InvalidLog, InvalidNumber, InvalidPlace, InvalidRules
from betweenlists.fewest import fewest, story_of
from betweenlists.forms import Form
from betweenlists.logs import Log
from betweenlists.looks import Ask, Piece
from betweenlists.renamings import always_renamed, renamed, sure_renamings
from betweenlists.rules import Rules
from betweenlists.stories import Story
from tests.cases import Case
from tests.search import Search
from tests.values import indexes_outside, no_places, no_whole_numbers, not_of
from tests.worlds import FAR, PLACES, SPARE, chance_case, log_of, wrong_log

X, Y, Z, B = PLACES
NEAR = Rules(across=False)
HUGE = 10 ** 39
CLASH = [Ask([(X, True)]), Ask([(X, False)])]


def renamings_of(story):
    return [story[k][2:] for k in range(len(story)) if story[k][1] == "rename"]


def clashing_logs():
    chance = random.Random()
    logs = [wrong_log(chance, chance_case(seed, chance)[2]) for seed in range(20)]
    return [Log([CLASH, []]), Log([[], [], CLASH])] + [log for log in logs if log is not None]


class RenamedTest(Case):
    """Point [90]."""

    def check_renamed(self, log, gap, one, other, wanted, *, rules=None, most=4):
        """There is such a story from this number of changes more than the fewest, or never for None."""
        before = log.copy()
        for spare in list(range(most)) + [HUGE]:
            story = renamed(log, gap, one, other, spare=spare, rules=rules)
            if wanted is None or spare < wanted:
                self.assertIs(story, None)
                continue
            self.assertIs(type(story), Story)
            self.assertIs(story.fits(log), True)
            self.assertIs(story.allowed(rules), True)
            self.assertLessEqual(len(story), fewest(log, rules=rules) + spare)
            self.assertIn((gap, "rename", one, other), [story[k] for k in range(len(story))])
            self.check_equal(story, renamed(log=log, gap=gap, one=one, other=other, spare=spare, rules=rules))
        if wanted == 0:
            self.assertIs(type(renamed(log, gap, one, other, rules=rules)), Story)
        else:
            self.assertIs(renamed(log, gap, one, other, rules=rules), None)
        self.check_equal(log, before)

    def test_a_going_and_a_coming(self):
        log = log_of({X: "+.-..", Y: ".-..+"})
        self.check_renamed(log, 1, X, Y, 0)
        # In a gap of one window alone, the place comes or goes once more.
        self.check_renamed(log, 0, X, Y, 2)
        self.check_renamed(log, 2, X, Y, 2)
        self.check_renamed(log, 3, X, Y, 2)
        log = log_of({X: "+...-", Y: "-...+"})
        for gap in range(4):
            self.check_renamed(log, gap, X, Y, 0)

    def test_windows_that_miss_each_other(self):
        log = log_of({X: "+-.", Y: ".-+"})
        self.assertEqual(fewest(log), 2)
        self.check_renamed(log, 0, X, Y, 1)
        self.check_renamed(log, 1, X, Y, 1)
        log = log_of({X: "+-..", Y: "..-+"})
        self.check_renamed(log, 0, X, Y, 1)
        self.check_renamed(log, 1, X, Y, 3)
        self.check_renamed(log, 2, X, Y, 1)

    def test_places_that_stay(self):
        log = log_of({X: "++", Y: "--"})
        self.check_renamed(log, 0, X, Y, 2)
        self.check_renamed(log, 0, Y, X, 2)
        log = log_of({X: "++", Y: "++"})
        self.check_renamed(log, 0, X, Y, 3)
        log = log_of({X: "--", Y: "--"})
        self.check_renamed(log, 0, X, Y, 3)

    def test_places_that_stay_and_bars(self):
        # There and back again: the way back may be barred.
        log = log_of({X: "++", Y: "--"})
        self.check_renamed(log, 0, X, Y, 3, rules=Rules(barred=[(Y, X)]))
        self.check_renamed(log, 0, X, Y, None, rules=Rules(barred=[(X, Y)]))
        self.check_renamed(log, 0, X, Y, 2, rules=Rules(barred=[(X, Z), (Z, Y)]))

    def test_the_other_way_round(self):
        log = log_of({X: "+-", Y: "-+"})
        self.check_renamed(log, 0, Y, X, 2)
        self.check_renamed(log, 0, X, Y, 0)

    def test_places_at_which_nobody_looks(self):
        log = log_of({X: "+-", Y: "-+"})
        self.check_renamed(log, 0, X, FAR, 1)
        self.check_renamed(log, 0, FAR, Y, 1)
        self.check_renamed(log, 0, FAR, Z, 1)
        self.check_renamed(log, 0, FAR, X, 2)
        self.check_renamed(log, 0, Y, FAR, 2)
        self.check_renamed(log_of({X: "+-"}), 0, X, FAR, 0)
        self.check_renamed(log_of({X: "+-"}), 0, X, FAR, None, rules=NEAR)
        self.check_renamed(log_of({X: "+-"}), 0, X, Y, 0, rules=NEAR)
        self.check_renamed(log_of({Y: "-+"}), 0, FAR, Y, 0)
        self.check_renamed(log_of({Y: "-+"}), 0, Z, Y, 0, rules=NEAR)
        self.check_renamed(Log([[], []]), 0, X, Y, 1)

    def test_before_and_behind_what_is_known(self):
        log = log_of({X: ".+-.", Y: ".-+."})
        self.check_renamed(log, 0, X, Y, 2)
        self.check_renamed(log, 0, Y, X, 1)
        self.check_renamed(log, 1, X, Y, 0)
        self.check_renamed(log, 2, Y, X, 1)
        self.check_renamed(log, 2, X, Y, 2)
        self.check_renamed(log, 0, Z, X, 1)
        self.check_renamed(log, 2, Y, Z, 1)

    def test_a_place_to_itself(self):
        for log in (log_of({X: "+-"}), log_of({X: "+.-.+"}), Log([[], []])):
            for place in (X, FAR):
                self.check_renamed(log, 0, place, place, None)

    def test_rules(self):
        log = log_of({X: "+-", B: "-+", Y: "-+"})
        self.check_renamed(log, 0, X, B, 0)
        self.check_renamed(log, 0, X, B, None, rules=NEAR)
        self.check_renamed(log, 0, X, B, None, rules=Rules(barred=[(X, B)]))
        self.check_renamed(log, 0, X, B, 0, rules=Rules(barred=[(B, X), (X, Y)]))
        self.check_renamed(log, 0, X, Y, 0, rules=NEAR)

    def test_chains_and_rings(self):
        log = log_of({X: "++", Y: "++", Z: "-+"})
        # Y gives way to Z, and X is renamed to Y; then something has to come to X again.
        self.check_renamed(log, 0, X, Y, 2)
        self.check_renamed(log, 0, Y, Z, 1)
        self.check_renamed(log, 0, Z, X, 2)

    def test_pieces(self):
        log = Log([
            [Piece("a", Form(), None, ["x", "y"], False)], [Piece("a", Form(chains=2), None, ["y"], False)],
            [Piece("a", Form(), "x", ["z"], True)],
        ])
        search = Search(log, PLACES + [FAR])
        for gap, one, other in itertools.product(range(2), PLACES + [FAR], PLACES + [FAR]):
            self.check_by_search(log, search, gap, one, other, None)

    def check_by_search(self, log, search, gap, one, other, rules):
        costs = search.fewest_with(gap, one, other)
        wanted = None if costs is None else costs - search.fewest()
        self.check_renamed(log, gap, one, other, wanted, rules=rules)
        return wanted

    def test_by_chance(self):
        chance = random.Random()
        found = []
        for seed in range(60):
            rules, _, log = chance_case(seed, chance, 5)
            search = Search(log, PLACES + [SPARE, FAR], rules=rules)
            pairs = itertools.product(PLACES + [SPARE, FAR], PLACES + [SPARE, FAR])
            for one, other in chance.sample(list(pairs), 8):
                gap = chance.randrange(len(log) - 1)
                found.append(self.check_by_search(log, search, gap, one, other, rules))
        for wanted in (None, 0, 1, 2):
            self.assertGreater(found.count(wanted), 5)

    def test_renamings_that_were_made(self):
        chance = random.Random()
        for seed in range(80):
            rules, story, log = chance_case(seed, chance)
            spare = len(story) - fewest(log, rules=rules)
            for k in range(len(story)):
                if story[k][1] == "rename":
                    gap, _, one, other = story[k]
                    got = renamed(log, gap, one, other, spare=spare, rules=rules)
                    self.assertIn(story[k], [got[at] for at in range(len(got))])
                    self.assertLessEqual(len(got), len(story))

    def test_example_of_section_9(self):
        a, b, c, d = [("docs", name) for name in "abcd"]
        log = Log([
            [Piece("docs", Form(), None, ["a", "b"], False)], [Ask([(c, False), (d, True)])],
            [Piece("docs", Form(), None, ["b", "c"], False)], [Ask([(d, False)])],
        ])
        self.assertIs(renamed(log, 0, a, c), None)
        self.assertIs(type(renamed(log, 0, a, ("bin", "x"))), Story)
        self.assertEqual(sure_renamings(log.part([0, 1, 2])), [(a, c)])
        self.check_renamed(log, 1, d, c, 0)

    def test_a_new_story_each_time(self):
        log = log_of({X: "+-", Y: "-+"})
        story = renamed(log, 0, X, Y)
        story += (0, "add", Z)
        self.assertEqual(len(renamed(log, 0, X, Y)), 1)


class SureRenamingsTest(Case):
    """Point [91]."""

    def check_sure(self, log, wanted, **named):
        before = log.copy()
        self.assertEqual(sure_renamings(log, **named), wanted)
        self.assertEqual(sure_renamings(log=log, **named), wanted)
        self.assertIs(type(sure_renamings(log, **named)), list)
        for one, other in itertools.product(PLACES + [SPARE, FAR], repeat=2):
            got = always_renamed(log, one, other, **named)
            self.assertIs(got, (one, other) in wanted)
            self.assertIs(always_renamed(other=other, one=one, log=log, **named), got)
        for renaming in wanted:
            self.assertIn(renaming, renamings_of(story_of(log, **named)))
        self.check_equal(log, before)

    def test_no_demands(self):
        for log in (Log(), Log([[]]), Log([[], []]), log_of({X: "++", Y: "-."})):
            self.check_sure(log, [])

    def test_one_renaming(self):
        self.check_sure(log_of({X: "+-", Y: "-+"}), [(X, Y)])
        self.check_sure(log_of({X: "+..-", Y: "-..+"}), [(X, Y)])
        self.check_sure(log_of({X: "+-.", Y: ".-+"}), [])
        self.check_sure(log_of({X: "+-"}), [])
        self.check_sure(log_of({X: "-+"}), [])

    def test_either_of_two(self):
        self.check_sure(log_of({X: "+-", Y: "+-", Z: "-+"}), [])
        self.check_sure(log_of({X: "+-", Y: "-+", Z: "-+"}), [])
        self.check_sure(log_of({X: "+-", Y: "+-", Z: "-+", B: "-+"}), [])
        self.check_sure(log_of({X: "+-", Y: "+-", Z: "-+", B: "-+"}), [], rules=NEAR)
        self.check_sure(log_of({X: "+-", Y: "+-", Z: "-+", B: "-+"}), [(X, B), (Y, Z)], rules=Rules(barred=[(Y, B)]))

    def test_rules(self):
        log = log_of({X: "+-", Y: "-+", B: "-+"})
        self.check_sure(log, [(X, Y)], rules=NEAR)
        self.check_sure(log, [(X, B)], rules=Rules(barred=[(X, Y)]))
        self.check_sure(log, [(X, Y)], rules=Rules(barred=[(X, B)]))
        self.check_sure(log, [], rules=Rules(barred=[(X, B), (X, Y)]))
        self.check_sure(log, [], rules=Rules(barred=[(B, X), (Y, X)]))

    def test_not_always_in_the_same_gap(self):
        # X goes twice and Y comes twice; any two of these that meet can be one, but at least one pair must be.
        log = log_of({X: "+-+-", Y: "-+-+"})
        self.check_sure(log, [(X, Y), (Y, X)])
        log = log_of({X: "+.-.+.-", Y: "-..+..."})
        self.check_sure(log, [(X, Y)])
        # Y comes once, when X goes for the first or for the second time.
        log = log_of({X: "+-+-", Y: "-..+"})
        self.assertEqual(fewest(log), 3)
        self.check_sure(log, [(X, Y)])
        for gap in (0, 2):
            self.assertEqual(len(renamed(log, gap, X, Y)), 3)

    def test_by_all_stories(self):
        chance = random.Random()
        sure, gaps = 0, 0
        for seed in range(250):
            rules, _, log = chance_case(seed, chance, 5)
            if fewest(log, rules=rules) not in (1, 2, 3):
                continue
            stories = Search(log, PLACES + [SPARE], rules=rules).stories()
            made = [{change[2:] for change in story if change[1] == "rename"} for story in stories]
            wanted = sorted(set.intersection(*made))
            self.check_sure(log, wanted, rules=rules)
            sure += len(wanted)
            for renaming in wanted:
                found = [{change[0] for change in story if change[2:] == renaming} for story in stories]
                gaps += not set.intersection(*found)
        self.assertGreater(sure, 15)
        self.assertGreater(gaps, 0)

    def test_by_rules_that_bar_it(self):
        """A renaming is in all stories with the fewest changes exactly if there is none with so few without it."""
        chance = random.Random()
        for seed in range(60):
            rules, _, log = chance_case(seed, chance)
            wanted = []
            for renaming in itertools.permutations(PLACES, 2):
                given = Rules() if rules is None else rules
                without = Rules(across=given.across, barred=given.barred + [renaming])
                if Search(log, PLACES, rules=without).fewest() > fewest(log, rules=rules):
                    wanted.append(renaming)
            self.check_sure(log, wanted, rules=rules)

    def test_new_lists_each_time(self):
        log = log_of({X: "+-.", Y: "-+."})
        sure_renamings(log).clear()
        self.check_sure(log, [(X, Y)])
        log[2] = [Ask([(X, True), (Y, False)])]
        self.check_sure(log, [(X, Y), (Y, X)])
        log[1] = []
        self.check_sure(log, [])

    def test_equal_calls(self):
        log = log_of({X: "+-", Y: "-+", B: "-+"})
        for rules in (None, NEAR, Rules(barred=[(X, B)])):
            self.assertEqual(sure_renamings(log, rules=rules), sure_renamings(log.copy(), rules=rules))


class ErrorsTest(Case):
    def setUp(self):
        self.log = log_of({X: "+-.", Y: "-.+"})
        self.calls = {
            renamed: ["log", "gap", "one", "other", "spare", "rules"],
            always_renamed: ["log", "one", "other", "rules"],
            sure_renamings: ["log", "rules"],
        }
        self.right = {"log": self.log, "gap": 1, "one": X, "other": Y, "spare": 0, "rules": None}

    def check_wrong(self, error, name, value, **others):
        """Each call that has this argument raises this error for it."""
        for call, names in self.calls.items():
            if name in names:
                named = {key: self.right[key] for key in names}
                named.update({key: worth for key, worth in others.items() if key in names})
                named[name] = value
                self.check_raises(error, value, call, **named)
                rest = [named.pop(key) for key in ("log", "gap", "one", "other") if key in named]
                self.check_raises(error, value, call, *rest, **named)

    def test_no_logs(self):
        for value in not_of(Log) + [[], [[]], Log]:
            self.check_wrong(InvalidLog, "log", value)

    def test_logs_that_clash(self):
        for log in clashing_logs():
            self.check_wrong(InvalidLog, "log", log, gap=0)
            self.check_wrong(InvalidLog, "log", log, gap=0, one=FAR, other=FAR, spare=HUGE, rules=NEAR)

    def test_no_gaps(self):
        for many, log in ((2, self.log), (0, Log()), (0, Log([[]])), (1, Log([[], []]))):
            for value in indexes_outside(many):
                self.check_wrong(InvalidNumber, "gap", value, log=log)

    def test_no_places(self):
        for value in no_places():
            self.check_wrong(InvalidPlace, "one", value)
            self.check_wrong(InvalidPlace, "one", value, other=value)
            self.check_wrong(InvalidPlace, "other", value)

    def test_no_spares(self):
        for value in [-1, -2, -HUGE] + no_whole_numbers():
            self.check_wrong(InvalidNumber, "spare", value)
            self.check_wrong(InvalidNumber, "spare", value, one=FAR, other=FAR)

    def test_no_rules(self):
        for value in not_of(Rules) + [Rules]:
            if value is not None:
                self.check_wrong(InvalidRules, "rules", value)
                self.check_wrong(InvalidRules, "rules", value, one=FAR, other=FAR)

    def test_order_of_the_errors(self):
        for log in ([[]], Log([CLASH, [], []])):
            wrong = [
                ("log", InvalidLog, log), ("gap", InvalidNumber, 2), ("one", InvalidPlace, ["a", "x"]),
                ("other", InvalidPlace, ("a", "X")), ("spare", InvalidNumber, -1), ("rules", InvalidRules, [Rules()]),
            ]
            for (name, error, value), (later, _, other) in itertools.combinations(wrong, 2):
                self.check_wrong(error, name, value, **{later: other})

    def test_only_by_name(self):
        for call, names in self.calls.items():
            rest = [self.right[name] for name in names if name not in ("spare", "rules")]
            with self.assertRaises(TypeError):
                call(*rest, 0)
