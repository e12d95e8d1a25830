"""Tests of point [100], and of [2] and [80] as far as they concern cores."""

import itertools
import random

from betweenlists.cores import core, is_core
from betweenlists.errors import InvalidLog, InvalidRules
from betweenlists.fewest import fewest
from betweenlists.forms import Form
from betweenlists.logs import Log
from betweenlists.looks import Ask, Piece
from betweenlists.rules import Rules
from tests.cases import Case
from tests.search import Search
from tests.values import every_value, indexes_outside, not_of
from tests.worlds import PLACES, SPARE, chance_case, log_of, wrong_log

X, Y, Z, B = PLACES
NEAR = Rules(across=False)
CLASH = [Ask([(X, True)]), Ask([(X, False)])]


def all_lists(many):
    """All ascending lists of different numbers below this one."""
    return [list(row) for size in range(many + 1) for row in itertools.combinations(range(many), size)]


def cores_of(log, rules=None):
    """All cores of a log, by the words of the document and a slow search."""
    many = {tuple(row): Search(log.part(row), PLACES, rules=rules).fewest() for row in all_lists(len(log))}
    most = many[tuple(range(len(log)))]
    found = []
    for row, changes in many.items():
        fewer = [many[tuple(at for at in row if at != k)] for k in row]
        if changes == most and all(less < most for less in fewer):
            found.append(list(row))
    return found


class CoreTest(Case):
    def check_core(self, log, wanted, **named):
        """These are all cores of the log."""
        before = log.copy()
        got = core(log, **named)
        self.assertIs(type(got), list)
        self.assertTrue(all(type(k) is int for k in got))
        self.assertIn(got, wanted)
        self.assertEqual(core(log=log, **named), got)
        for claim in all_lists(len(log)):
            self.assertIs(is_core(log, claim, **named), claim in wanted)
            self.assertIs(is_core(claim=claim, log=log, **named), claim in wanted)
        self.check_equal(log, before)

    def test_no_demands(self):
        for log in (Log(), Log([[]]), Log([[], [Ask([])]]), log_of({X: "+.+", Y: "-..", Z: "..+"})):
            self.check_core(log, [[]])
            self.check_core(log, [[]], rules=NEAR)

    def test_one_demand(self):
        self.check_core(log_of({X: "+-"}), [[0, 1]])
        self.check_core(log_of({X: ".+.-."}), [[1, 3]])
        self.check_core(log_of({X: "++--"}), [[0, 2], [0, 3], [1, 2], [1, 3]])

    def test_several_changes(self):
        self.check_core(log_of({X: "+-+-"}), [[0, 1, 2, 3]])
        self.check_core(log_of({X: "+-++"}), [[0, 1, 2], [0, 1, 3]])
        self.check_core(log_of({X: "+.-", Y: "+-."}), [[0, 1, 2]])
        self.check_core(log_of({X: "+--", Y: "+-."}), [[0, 1]])

    def test_places_that_go_and_come(self):
        for rows in ({X: "++-.-", Y: "+.-.-", Z: ".+.-."}, {X: "+-.+-", Y: "..+.-"}, {X: "+-+-+", Y: "-.+.-"}):
            log = log_of(rows)
            self.check_core(log, cores_of(log))

    def test_rules(self):
        log = log_of({X: "+.-.", B: "-..+"})
        self.check_core(log, [[0, 2], [0, 3]])
        self.check_core(log, [[0, 2, 3]], rules=NEAR)
        self.check_core(log, [[0, 2, 3]], rules=Rules(barred=[(X, B)]))
        self.check_core(log, [[0, 2], [0, 3]], rules=Rules(barred=[(B, X)]))

    def test_pieces(self):
        log = Log([
            [Piece("a", Form(), None, ["x", "y"], False)], [Piece("a", Form(), "x", ["y"], True)],
            [Piece("a", Form(), None, ["y"], True)], [Piece("a", Form(), None, ["x", "z"], True)],
        ])
        self.check_core(log, cores_of(log))

    def test_by_chance(self):
        chance = random.Random()
        lengths = []
        for seed in range(80):
            rules, _, log = chance_case(seed, chance, 5)
            self.check_core(log, cores_of(log, rules), rules=rules)
            lengths.append(len(core(log, rules=rules)))
        self.assertGreater(len([length for length in lengths if length > 2]), 10)

    def test_the_log_of_a_core(self):
        chance = random.Random()
        for seed in range(60):
            rules, _, log = chance_case(seed, chance, 8)
            rows = core(log, rules=rules)
            self.assertIs(is_core(log, rows, rules=rules), True)
            self.assertEqual(fewest(log.part(rows), rules=rules), fewest(log, rules=rules))
            self.assertEqual(core(log.part(rows), rules=rules), list(range(len(rows))))
            for k in rows:
                fewer = log.part([at for at in rows if at != k])
                self.assertLess(fewest(fewer, rules=rules), fewest(log, rules=rules))

    def test_new_lists_each_time(self):
        log = log_of({X: "+-."})
        core(log).clear()
        self.check_core(log, [[0, 1]])
        log[2] = [Ask([(X, True)])]
        self.check_core(log, [[0, 1, 2]])
        log[1] = []
        self.check_core(log, [[]])


class IsCoreTest(Case):
    def test_any_value(self):
        log, nothing = log_of({X: "+-+"}), log_of({X: "++"})
        for value in every_value() + [value for value in indexes_outside(3)]:
            self.assertIs(is_core(log, value), False)
            self.assertIs(is_core(nothing, value), isinstance(value, list) and not value)

    def test_wrong_claims(self):
        log = log_of({X: "+-+"})
        self.assertIs(is_core(log, [0, 1, 2]), True)
        for claim in [
            (0, 1, 2), {0: True, 1: True, 2: True}, "012", range(3), [0, 1], [2, 1, 0], [0, 2, 1], [0, 0, 1, 2],
            [0, 1, 1, 2], [0, 1, 2, 2], [0, 1, 2, 3], [0, 1, 3], [-1, 0, 1, 2], [0, 1, -1], [False, 1, 2], [0, True, 2],
            [0, 1, 2, True], [0, 1, "2"], [0, 1, None], [0, [1], 2], [(0, 1, 2)], [[0, 1, 2]], [0, 1, 10 ** 39], [],
            [0, 1, (2,)], [log], [0, 1, 2, log], [X, 1, 2],
        ]:
            self.assertIs(is_core(log, claim), False)

    def test_no_claims_of_short_logs(self):
        for log in (Log(), Log([[]])):
            for claim in ([1], [0, 1], [True], [-1], [False], [0]):
                self.assertIs(is_core(log, claim), False)
            self.assertIs(is_core(log, []), True)
            self.assertIs(is_core(log, ()), False)

    def test_long_claims(self):
        self.assertIs(is_core(log_of({X: "+-+"}), list(range(300))), False)
        self.assertIs(is_core(log_of({X: "+-+"}), [0, 1, 2] * 100), False)

    def test_the_claim_stays(self):
        claim = [0, 1, 2]
        is_core(log_of({X: "+-+"}), claim)
        self.assertEqual(claim, [0, 1, 2])


class ErrorsTest(Case):
    def calls(self):
        return [(core, ())] + [(is_core, (claim,)) for claim in ([], None, [0, 1], "x")]

    def test_no_logs(self):
        for value in not_of(Log) + [[], [[]], Log]:
            for call, rest in self.calls():
                self.check_raises(InvalidLog, value, call, value, *rest)
                self.check_raises(InvalidLog, value, call, value, *rest, rules=1)

    def test_logs_that_clash(self):
        chance = random.Random()
        logs = [wrong_log(chance, chance_case(seed, chance)[2]) for seed in range(20)]
        for log in [Log([CLASH]), Log([[], CLASH])] + [log for log in logs if log is not None]:
            for call, rest in self.calls():
                self.check_raises(InvalidLog, log, call, log, *rest)
                self.check_raises(InvalidLog, log, call, log, *rest, rules=1)

    def test_no_rules(self):
        for log in (Log(), log_of({X: "+-", SPARE: "+-"})):
            for value in not_of(Rules) + [Rules]:
                if value is not None:
                    for call, rest in self.calls():
                        self.check_raises(InvalidRules, value, call, log, *rest, rules=value)

    def test_rules_only_by_name(self):
        for call, rest in self.calls():
            with self.assertRaises(TypeError):
                call(log_of({X: "+-"}), *rest, Rules())
