"""Tests of the points [60] and [61], and of [2] as far as it concerns demands."""

import itertools
import random

from betweenlists.demands import can_be_one, demands
from betweenlists.errors import InvalidDemand, InvalidLog, InvalidRules
from betweenlists.forms import Form
from betweenlists.logs import Log
from betweenlists.looks import Ask, Piece
from betweenlists.rules import Rules
from tests.cases import Case
from tests.values import BACKWARDS, every_value, no_places, no_whole_numbers, not_of

X, Y, Z, FAR = ("a", "x"), ("a", "y"), ("a", "z"), ("b", "x")
PLACES = [(folder, name) for folder in "abc" for name in "bcxyz"]
GREAT = 10 ** 38


def answer(place, stands):
    return [Ask([(place, stands)])]


def line(*said):
    """A log of answers about X: True, False, or None for a moment without looks."""
    return Log([[] if stands is None else answer(X, stands) for stands in said])


def expected_demands(log):
    """All demands, by the words of [60]."""
    if log.clash() is not None:
        return None
    found = []
    for place, begin, end in itertools.product(PLACES, range(len(log)), range(len(log))):
        before, after = log.says(begin, place), log.says(end, place)
        between = [log.says(k, place) for k in range(begin + 1, end)]
        if begin < end and None not in (before, after) and before != after and set(between) <= {None}:
            found.append((place, begin, end, "go" if before else "come"))
    return sorted(found)


class DemandsTest(Case):
    """Point [60]."""

    def check_demands(self, log, wanted):
        before = log.copy()
        got = demands(log)
        self.assertEqual(got, wanted)
        self.assertIs(type(got), list)
        for demand in got:
            self.assertIs(type(demand), tuple)
            self.assertIs(type(demand[1]), int)
        self.assertEqual(demands(log=log), wanted)
        self.check_equal(log, before)

    def test_none(self):
        for log in (
            Log(), Log([[]]), Log([[], []]), line(True), line(False), line(True, True), line(False, None, False),
            line(None, True, None), Log([answer(X, True), answer(Y, False)]), Log([answer(X, False), answer(Y, True)]),
            Log([answer(X, True), answer(FAR, False)]),
        ):
            self.check_demands(log, [])

    def test_one(self):
        self.check_demands(line(True, False), [(X, 0, 1, "go")])
        self.check_demands(line(False, True), [(X, 0, 1, "come")])
        self.check_demands(line(None, False, True, None), [(X, 1, 2, "come")])

    def test_unknown_moments_between(self):
        self.check_demands(line(True, None, None, False), [(X, 0, 3, "go")])
        self.check_demands(line(None, False, None, True, None), [(X, 1, 3, "come")])
        log = Log([answer(X, True), answer(Y, True), answer(FAR, True), answer(X, False)])
        self.check_demands(log, [(X, 0, 3, "go")])

    def test_the_last_moment_at_which_it_was_known(self):
        self.check_demands(line(True, True, None, False, False), [(X, 1, 3, "go")])
        self.check_demands(line(False, None, False, True, None, True), [(X, 2, 3, "come")])

    def test_several_of_one_place(self):
        log = line(True, False, None, True, None, None, False, False, True)
        wanted = [(X, 0, 1, "go"), (X, 1, 3, "come"), (X, 3, 6, "go"), (X, 7, 8, "come")]
        self.check_demands(log, wanted)

    def test_ascending(self):
        log = Log([
            [Ask([(FAR, True), (Z, False), (X, True)])],
            [Ask([(X, False), (Y, True)])],
            [Ask([(FAR, False), (Z, True), (Y, False)])],
            [Ask([(X, True), (Z, False)])],
        ])
        self.check_demands(log, [
            (X, 0, 1, "go"), (X, 1, 3, "come"), (Y, 1, 2, "go"), (Z, 0, 2, "come"), (Z, 2, 3, "go"), (FAR, 0, 2, "go"),
        ])

    def test_pieces(self):
        log = Log([
            [Piece("a", Form(), None, ["b", "x"], False)],
            [Piece("a", Form(BACKWARDS), None, ["y"], False), Ask([(X, True)])],
            [Piece("a", Form(), "b", ["z"], True)],
        ])
        self.check_demands(log, [(X, 1, 2, "go"), (Y, 1, 2, "go"), (Z, 1, 2, "come")])
        log += [Piece("a", Form(), None, [], True)]
        self.check_demands(log, [
            (("a", "b"), 0, 3, "go"), (X, 1, 2, "go"), (Y, 1, 2, "go"), (Z, 1, 2, "come"), (Z, 2, 3, "go"),
        ])

    def test_looks_of_one_moment_that_agree(self):
        twice = [Ask([(X, True)]), Piece("a", Form(), None, ["x"], False)]
        self.check_demands(Log([twice, answer(X, False) * 2]), [(X, 0, 1, "go")])

    def test_logs_that_clash(self):
        clash = [Ask([(X, True)]), Ask([(X, False)])]
        stands = answer(X, True)
        for moments in ([clash], [clash[::-1]], [stands, clash], [clash, stands], [[], [], clash, []]):
            self.assertIs(demands(Log(moments)), None)
        log = line(True, False)
        self.assertEqual(len(demands(log)), 1)
        log[1] = clash
        self.assertIs(demands(log), None)

    def test_returned_lists_may_change(self):
        log = line(True, False, True)
        demands(log).clear()
        got = demands(log)
        got.append(None)
        self.check_demands(log, [(X, 0, 1, "go"), (X, 1, 2, "come")])

    def test_no_logs(self):
        for value in not_of(Log) + [None, [], [[]], [answer(X, True)], Log]:
            self.check_raises(InvalidLog, value, demands, value)

    def chance_look(self, chance):
        if chance.random() < 0.5:
            asked = chance.sample(PLACES, chance.randint(0, 2))
            return Ask([(place, chance.random() < 0.5) for place in asked])
        names = [name for name in ("b", "x", "y", "z") if chance.random() < 0.4]
        ended = not names or chance.random() < 0.5
        return Piece(chance.choice("ab"), Form(), chance.choice([None, "a"]), names, ended)

    def test_by_chance(self):
        clashes = 0
        for seed in range(300):
            chance = random.Random(seed)
            log = Log([])
            for _ in range(chance.randint(2, 8)):
                log += [self.chance_look(chance) for _ in range(chance.choice([0, 1, 1, 1, 2]))]
            wanted = expected_demands(log)
            if wanted is None:
                clashes += 1
                self.assertIs(demands(log), None)
            else:
                self.check_demands(log, wanted)
        self.assertTrue(10 < clashes < 200)

    def test_example_of_section_7(self):
        reading = [Piece("docs", Form(), None, ["a", "b"], False), Piece("docs", Form(), "b", ["d"], True)]
        again = [Piece("docs", Form(), None, ["b", "c"], False), Piece("docs", Form(), "c", [], True)]
        log = Log([[reading[0]], [reading[1]], [again[0]], [again[1]]])
        a, c, d = [("docs", name) for name in "acd"]
        self.check_demands(log, [(a, 0, 2, "go"), (c, 1, 2, "come"), (d, 1, 3, "go")])
        self.check_demands(log.part([0, 1]), [])


def wrong_demands():
    right = (X, 0, 1, "go")
    wrong = [
        list(right), right[:3], right + ("go",), (), (X,), (list(X), 0, 1, "go"), (X, 0, 0, "go"), (X, 1, 0, "go"),
        (X, 3, 3, "come"), (X, GREAT, GREAT, "go"), (X, GREAT, 1, "come"), (X, -1, 1, "go"), (X, -2, -1, "come"),
        (X, -GREAT, 0, "go"), (X, False, 1, "go"), (X, 0, True, "go"), (X, False, True, "come"), (X, True, 2, "go"),
        (X, 0, 1, "Go"), (X, 0, 1, "comes"), (X, 0, 1, ""), (X, 0, 1, "went"), (X, 0, 1, "add"), (X, 0, 1, ["go"]),
        (X, 0, 1, ("come",)), (X, 0, 1, True), (X, 0, 1, None), (X, 0, "1", "go"), (X, "0", 1, "go"),
        ("x", 0, 1, "go"), (0, 1, X, "go"), ("go", X, 0, 1), (right,), [right], {0: right},
    ]
    for value in no_places():
        wrong.append((value, 0, 1, "go"))
    for value in no_whole_numbers():
        wrong += [(X, value, 1, "go"), (X, 0, value, "come")]
    for value in every_value():
        wrong.append((X, 0, 1, value))
    return wrong + every_value()


class CanBeOneTest(Case):
    """Point [61]."""

    def check_one(self, gone, come, wanted, **named):
        """Whether the two can be one, in either order."""
        for one, other in ((gone, come), (come, gone)):
            self.assertIs(can_be_one(one, other, **named), wanted)
            self.assertIs(can_be_one(other=other, one=one, **named), wanted)

    def test_windows(self):
        for (begin, end), (first, last), wanted in [
            ((0, 1), (0, 1), True), ((0, 2), (1, 3), True), ((0, 1), (1, 2), False), ((0, 5), (4, 5), True),
            ((0, 5), (5, 6), False), ((0, 5), (2, 3), True), ((0, 1), (0, 9), True), ((3, 7), (1, 4), True),
            ((3, 7), (1, 3), False), ((3, 7), (7, 9), False), ((3, 7), (6, 9), True), ((0, 1), (2, 3), False),
            ((0, GREAT), (GREAT - 1, GREAT + 1), True), ((0, GREAT), (GREAT, GREAT + 1), False),
            ((GREAT, GREAT + 1), (GREAT, GREAT + 1), True), ((GREAT, 9 * GREAT), (1, GREAT + 1), True),
            ((0, 9 * GREAT), (1, 2), True), ((GREAT, GREAT + 1), (0, 1), False),
        ]:
            self.check_one((X, begin, end, "go"), (Y, first, last, "come"), wanted)
            self.check_one((X, begin, end, "come"), (Y, first, last, "go"), wanted)
            self.check_one((X, begin, end, "go"), (FAR, first, last, "come"), wanted)

    def test_all_small_windows(self):
        windows = list(itertools.combinations(range(5), 2))
        for one, other in itertools.product(windows, windows):
            wanted = bool(set(range(*one)) & set(range(*other)))
            self.check_one((X, *one, "go"), (Y, *other, "come"), wanted)

    def test_ways(self):
        for way in ("go", "come"):
            self.check_one((X, 0, 2, way), (Y, 0, 2, way), False)
            self.check_one((X, 0, 2, way), (X, 0, 2, way), False)

    def test_one_place(self):
        self.check_one((X, 0, 2, "go"), (X, 0, 2, "come"), False)
        self.check_one((X, 0, 2, "go"), (X, 1, 2, "come"), False, rules=Rules())

    def test_rules(self):
        gone, come = (X, 0, 2, "go"), (Y, 1, 3, "come")
        for rules, wanted in [
            (None, True), (Rules(), True), (Rules(across=False), True), (Rules(barred=[(X, Y)]), False),
            (Rules(barred=[(Y, X)]), True), (Rules(across=False, barred=[(X, Y)]), False),
            (Rules(barred=[(X, Z), (Z, Y)]), True),
        ]:
            self.check_one(gone, come, wanted, rules=rules)
            self.check_one(gone, (Y, 2, 3, "come"), False, rules=rules)
        far = (FAR, 0, 1, "come")
        for rules, wanted in [
            (None, True), (Rules(), True), (Rules(across=False), False), (Rules(barred=[(X, FAR)]), False),
            (Rules(barred=[(FAR, X)]), True),
        ]:
            self.check_one(gone, far, wanted, rules=rules)
        self.check_one((Y, 0, 2, "go"), (X, 1, 3, "come"), True, rules=Rules(barred=[(X, Y)]))

    def test_rules_only_by_name(self):
        with self.assertRaises(TypeError):
            can_be_one((X, 0, 2, "go"), (Y, 1, 3, "come"), Rules())

    def test_no_demands(self):
        right = (Y, 0, 1, "come")
        for value in wrong_demands():
            self.check_raises(InvalidDemand, value, can_be_one, value, right)
            self.check_raises(InvalidDemand, value, can_be_one, right, value)
            self.check_raises(InvalidDemand, value, can_be_one, right, value, rules=Rules())

    def test_no_rules(self):
        gone = (X, 0, 1, "go")
        pairs = [(gone, (Y, 0, 1, "come")), (gone, gone), (gone, (Y, 5, 6, "go")), (gone, (X, 5, 6, "come"))]
        for value in not_of(Rules) + [True, [], (True, []), Rules]:
            if value is not None:
                for one, other in pairs:
                    self.check_raises(InvalidRules, value, can_be_one, one, other, rules=value)

    def test_order_of_the_errors(self):
        right = (Y, 0, 1, "come")
        one, other, rules = [X, 0, 1, "go"], [X, 0, 1, "go"], [1]
        self.check_raises(InvalidDemand, one, can_be_one, one, other, rules=rules)
        self.check_raises(InvalidDemand, other, can_be_one, other=one, one=other, rules=rules)
        self.check_raises(InvalidDemand, one, can_be_one, one, right, rules=rules)
        self.check_raises(InvalidDemand, other, can_be_one, right, other, rules=rules)
        self.check_raises(InvalidRules, rules, can_be_one, right, right, rules=rules)

    def test_of_the_demands_of_a_log(self):
        first, third = Ask([(X, True), (Y, False)]), Ask([(Y, True), (Z, False)])
        log = Log([[first], answer(X, False), [third], answer(Z, True)])
        got = demands(log)
        self.assertEqual(got, [(X, 0, 1, "go"), (Y, 0, 2, "come"), (Z, 2, 3, "come")])
        self.check_one(got[0], got[1], True)
        self.check_one(got[0], got[2], False)
        self.check_one(got[1], got[2], False)
