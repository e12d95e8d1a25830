"""Tests of the points [80] and [81], and of [2] as far as it concerns what is sure."""

import random

from betweenlists.errors import InvalidLog, InvalidNumber, InvalidPlace, InvalidRules
from betweenlists.fewest import fewest
from betweenlists.forms import Form
from betweenlists.logs import Log
from betweenlists.looks import Ask, Piece
from betweenlists.rules import Rules
from betweenlists.sure import course, standing, stood
from tests.cases import Case
from tests.search import Search
from tests.values import indexes_outside, no_places, no_whole_numbers, not_of
from tests.worlds import FAR, PLACES, SPARE, chance_case, log_of, wrong_log

X, Y, Z, B = PLACES
ALL = PLACES + [SPARE, FAR]
NEAR = Rules(across=False)
HUGE = 10 ** 39
CLASH = [Ask([(X, True)]), Ask([(X, False)])]


def signs_of(row):
    """What is sure, moment by moment: in, out, or neither."""
    return "".join({True: "+", False: "-", None: "."}[said] for said in row)


class SureCase(Case):
    def check_course(self, log, place, wanted, **named):
        """What stood says at each moment, as signs, and course and standing the same."""
        before = log.copy()
        row = course(log, place, **named)
        self.assertIs(type(row), list)
        self.assertEqual(signs_of(row), wanted)
        for k, said in enumerate(row):
            self.assertIs(stood(log, k, place, **named), said)
            self.assertIs(place in standing(log, k, **named), said is True)
        self.check_equal(log, before)


class StoodTest(SureCase):
    """Point [80]."""

    def test_known_moments(self):
        log = log_of({X: "+-+-", Y: "--++"})
        for spare in (0, 1, 2, 5, HUGE):
            self.check_course(log, X, "+-+-", spare=spare)
            self.check_course(log, Y, "--++", spare=spare)

    def test_between_two_moments(self):
        self.check_course(log_of({X: "+..+"}), X, "++++")
        self.check_course(log_of({X: "+..+"}), X, "++++", spare=1)
        self.check_course(log_of({X: "+..+"}), X, "+..+", spare=2)
        self.check_course(log_of({X: "-..-"}), X, "----", spare=1)
        self.check_course(log_of({X: "-..-"}), X, "-..-", spare=2)
        self.check_course(log_of({X: "+..-"}), X, "+..-")
        self.check_course(log_of({X: "-..+"}), X, "-..+")

    def test_before_and_behind(self):
        self.check_course(log_of({X: "..+.."}), X, "+++++")
        self.check_course(log_of({X: "..-.."}), X, "-----")
        self.check_course(log_of({X: "..+.."}), X, "..+..", spare=1)
        self.check_course(log_of({X: "..-.."}), X, "..-..", spare=1)

    def test_each_spare(self):
        log = log_of({X: ".+.+.-.", Y: "-.-...+"})
        for spare, x, y in [
            (0, "++++.--", "----.++"), (1, ".+++.-.", "---...+"), (2, ".+.+.-.", "-.-...+"),
            (3, ".+.+.-.", "-.-...+"), (HUGE, ".+.+.-.", "-.-...+"),
        ]:
            self.check_course(log, X, x, spare=spare)
            self.check_course(log, Y, y, spare=spare)

    def test_one_renaming_for_two(self):
        # One change does both; it can only have been made where both windows reach.
        log = log_of({X: "+.-.", Y: "-..+"})
        self.assertEqual(fewest(log), 1)
        self.check_course(log, X, "+.--")
        self.check_course(log, Y, "-.++")
        log = log_of({X: "+.-.", Y: ".-.+"})
        self.check_course(log, X, "++--")
        self.check_course(log, Y, "--++")
        self.check_course(log, X, "+.-.", spare=1)
        self.check_course(log, Y, ".-.+", spare=1)

    def test_rules(self):
        log = log_of({X: "+.-.", B: ".-.+"})
        self.check_course(log, X, "++--")
        self.check_course(log, X, "+.--", rules=NEAR)
        self.check_course(log, X, "+.--", rules=Rules(barred=[(X, B)]))
        self.check_course(log, X, "++--", rules=Rules(barred=[(B, X)]))
        self.check_course(log, B, "--.+", rules=NEAR)

    def test_places_at_which_nobody_looks(self):
        log = log_of({X: "+.-", Y: "-.+"})
        for place in (Z, B, SPARE, FAR):
            for spare in (0, 1, HUGE):
                self.check_course(log, place, "...", spare=spare)
        self.check_course(Log([[]]), X, ".")

    def test_pieces(self):
        log = Log([
            [Piece("a", Form(), None, ["x", "y"], False)], [], [Piece("a", Form(), "x", [], True)], [Ask([(X, True)])],
        ])
        self.check_course(log, X, "++++")
        self.check_course(log, Y, "+.--")
        self.check_course(log, Z, "----")
        # The place that went may have been renamed to this one, at no cost.
        self.check_course(log, ("a", "w"), "-...")
        self.check_course(log, ("a", "w"), "----", rules=Rules(barred=[(Y, ("a", "w"))]))
        self.check_course(log, B, "....")

    def test_example_of_section_9(self):
        a, b, c, d = [("docs", name) for name in "abcd"]
        form = Form()
        log = Log([
            [Piece("docs", form, None, ["a", "b"], False)], [Ask([(c, False), (d, True)])],
            [Piece("docs", form, None, ["b", "c"], False)], [Ask([(d, False)])],
        ])
        self.assertEqual(course(log, a), [True, None, False, None])
        self.assertIs(stood(log, 2, d), None)
        self.check_course(log, b, "++++")
        self.check_course(log, c, "--++")

    def test_by_chance(self):
        chance = random.Random()
        found = []
        for seed in range(60):
            rules, _, log = chance_case(seed, chance, 6)
            search = Search(log, PLACES + [SPARE], rules=rules)
            for spare in (0, 1, 2, 3, HUGE):
                for place in PLACES + [SPARE]:
                    wanted = signs_of([search.stood(k, place, spare) for k in range(len(log))])
                    self.check_course(log, place, wanted, spare=spare, rules=rules)
                    found += wanted
                self.check_course(log, FAR, "." * len(log), spare=spare, rules=rules)
        for sign in "+-.":
            self.assertGreater(found.count(sign), 500)

    def test_a_story_for_a_longer_log(self):
        chance = random.Random()
        for seed in range(60):
            rules, _, log = chance_case(seed, chance)
            k, place, spare = chance.randrange(len(log)), chance.choice(ALL), chance.randint(0, 2)
            may = []
            for stands in (True, False):
                longer = fewest(log.also(k, Ask([(place, stands)])), rules=rules)
                may.append(longer is not None and longer <= fewest(log, rules=rules) + spare)
            wanted = None if all(may) else may[0]
            self.assertIs(stood(log, k, place, spare=spare, rules=rules), wanted)

    def test_what_really_happened(self):
        chance = random.Random()
        for seed in range(60):
            rules, story, log = chance_case(seed, chance)
            spare = len(story) - fewest(log, rules=rules)
            for place in ALL:
                for k, said in enumerate(course(log, place, spare=spare, rules=rules)):
                    self.assertIn(said, (None, place in story.at(k)))


class CourseAndStandingTest(SureCase):
    """Point [81]."""

    def test_logs_without_moments(self):
        for place in ALL:
            for spare in (0, HUGE):
                self.assertEqual(course(Log(), place, spare=spare), [])

    def test_standing(self):
        log = log_of({Z: "+.+-", Y: "-+..", X: "..-.", B: "++.."})
        for k, wanted in enumerate([[Z, B], [Y, Z, B], [Y, Z, B], [Y, B]]):
            self.assertEqual(standing(log, k), wanted)
            # With one change more, Z can have been renamed to Y and have come again.
            self.assertEqual(standing(log, k, spare=1), [[Z, B], [Y, B], [Z], []][k])
            self.assertEqual(standing(log=log, k=k, spare=HUGE, rules=NEAR), [[Z, B], [Y, B], [Z], []][k])
        self.assertEqual(standing(Log([[]]), 0), [])
        self.assertEqual(standing(log_of({X: "--"}), 1), [])

    def test_standing_by_chance(self):
        chance = random.Random()
        for seed in range(60):
            rules, _, log = chance_case(seed, chance)
            for k in range(len(log)):
                for spare in (0, 1, 2):
                    wanted = [place for place in ALL if stood(log, k, place, spare=spare, rules=rules) is True]
                    got = standing(log, k, spare=spare, rules=rules)
                    self.assertEqual(got, sorted(wanted))
                    self.assertLessEqual(set(got), set(log.places()))

    def test_new_lists_each_time(self):
        log = log_of({X: "+.+"})
        course(log, X).clear()
        standing(log, 1).clear()
        self.check_course(log, X, "+++")
        log[2] = [Ask([(X, False)])]
        self.check_course(log, X, "+.-")
        log[0] = []
        self.check_course(log, X, "---")

    def test_equal_calls(self):
        log = log_of({X: "+.-", Y: "-.+", B: "-.."})
        for place in ALL:
            self.assertEqual(course(log, place), course(log.copy(), place, spare=0, rules=Rules()))
        for k in range(3):
            self.assertEqual(standing(log, k), standing(log=log.copy(), k=k, rules=None, spare=0))
            self.assertEqual(stood(log, k, X), stood(rules=None, spare=0, place=X, k=k, log=log))


def no_spares():
    return [-1, -2, -HUGE] + no_whole_numbers()


class ErrorsTest(Case):
    def setUp(self):
        self.log = log_of({X: "+.-", Y: "-.+"})

    def test_no_logs(self):
        for value in not_of(Log) + [[], [[]], Log]:
            self.check_raises(InvalidLog, value, stood, value, 0, X)
            self.check_raises(InvalidLog, value, course, value, X)
            self.check_raises(InvalidLog, value, standing, value, 0)

    def test_logs_that_clash(self):
        chance = random.Random()
        logs = [wrong_log(chance, chance_case(seed, chance)[2]) for seed in range(20)]
        for log in [Log([CLASH]), Log([[], CLASH])] + [log for log in logs if log is not None]:
            for rules in (None, NEAR):
                self.check_raises(InvalidLog, log, stood, log, 0, X, rules=rules)
                self.check_raises(InvalidLog, log, stood, log, 0, FAR, spare=1, rules=rules)
                self.check_raises(InvalidLog, log, course, log, Y, rules=rules)
                self.check_raises(InvalidLog, log, standing, log, 0, spare=HUGE, rules=rules)

    def test_no_moments(self):
        for many, log in [(3, self.log), (0, Log()), (1, Log([[]]))]:
            for value in indexes_outside(many):
                self.check_raises(InvalidNumber, value, stood, log, value, X)
                self.check_raises(InvalidNumber, value, standing, log, value)

    def test_no_places(self):
        for value in no_places():
            self.check_raises(InvalidPlace, value, stood, self.log, 0, value)
            self.check_raises(InvalidPlace, value, course, self.log, value)
            self.check_raises(InvalidPlace, value, course, Log(), value)

    def test_no_spares(self):
        for value in no_spares():
            self.check_raises(InvalidNumber, value, stood, self.log, 0, X, spare=value)
            self.check_raises(InvalidNumber, value, stood, self.log, 0, FAR, spare=value)
            self.check_raises(InvalidNumber, value, course, self.log, X, spare=value)
            self.check_raises(InvalidNumber, value, course, Log(), X, spare=value)
            self.check_raises(InvalidNumber, value, standing, self.log, 0, spare=value)

    def test_no_rules(self):
        for value in not_of(Rules) + [Rules]:
            if value is not None:
                self.check_raises(InvalidRules, value, stood, self.log, 0, X, rules=value)
                self.check_raises(InvalidRules, value, stood, self.log, 0, FAR, rules=value)
                self.check_raises(InvalidRules, value, course, Log(), X, rules=value)
                self.check_raises(InvalidRules, value, standing, Log([[]]), 0, rules=value)

    def check_order(self, call, wrong):
        """For any two wrong arguments the error of the first one; `wrong` has each name with its error and a value."""
        right = {"log": self.log, "k": 1, "place": X, "spare": 0, "rules": None}
        names = list(wrong)
        for at, first in enumerate(names):
            for second in names[at:] + [None]:
                named = {name: right[name] for name in names}
                named.update({name: wrong[name][1] for name in (first, second) if name is not None})
                error, value = wrong[first]
                self.check_raises(error, value, call, **named)
                log, rest = named.pop("log"), [named.pop(name) for name in ("k", "place") if name in named]
                self.check_raises(error, value, call, log, *rest, **named)

    def test_order_of_the_errors(self):
        for log in ([[]], Log([CLASH, [], []])):
            wrong = {
                "log": (InvalidLog, log), "k": (InvalidNumber, 3), "place": (InvalidPlace, ["a", "x"]),
                "spare": (InvalidNumber, -1), "rules": (InvalidRules, [Rules()]),
            }
            self.check_order(stood, wrong)
            self.check_order(course, {name: value for name, value in wrong.items() if name != "k"})
            self.check_order(standing, {name: value for name, value in wrong.items() if name != "place"})

    def test_only_by_name(self):
        for call, rest in ((stood, (0, X)), (course, (X,)), (standing, (0,))):
            with self.assertRaises(TypeError):
                call(self.log, *rest, 0)
