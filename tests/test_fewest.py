"""Tests of point [62], and of [2] and [41] as far as they concern the fewest changes."""

import itertools
import random

from betweenlists.demands import can_be_one, demands
from betweenlists.errors import InvalidLog, InvalidRules
from betweenlists.fewest import apart, fewest, is_apart, story_of
from betweenlists.forms import Form
from betweenlists.logs import Log
from betweenlists.looks import Ask, Piece
from betweenlists.rules import Rules
from betweenlists.stories import Story
from tests.cases import Case
from tests.search import Search
from tests.values import BACKWARDS, every_value, not_of
from tests.worlds import FAR, PLACES, SPARE, chance_case, log_of, wrong_log

X, Y, Z, B = PLACES
GONE = [("g", letter) for letter in "abcdefgh"]
COME = [("h", letter) for letter in "abcdefgh"]
CALLS = [fewest, story_of, apart]
NEAR = Rules(across=False)


def clashing_logs():
    clash = [Ask([(X, True)]), Ask([(X, False)])]
    return [
        Log([clash]), Log([clash, [], []]), Log([[], clash]), log_of({X: "+-", Y: "-+"}) + Log([clash]),
        Log([[Piece("a", Form(), None, [], True), Ask([(X, True)])]]),
    ]


class CountCase(Case):
    def check_story(self, story, log, rules, most):
        """The story counts for the log and the rules, and has so many changes."""
        self.assertIs(type(story), Story)
        self.assertIs(story.fits(log), True)
        self.assertIs(story.allowed(rules), True)
        self.assertEqual(len(story), most)


class FewestTest(CountCase):
    """All that shows how many changes there must have been, for one log after another."""

    def check_fewest(self, log, wanted, **named):
        rules = named.get("rules")
        before = log.copy()
        got = fewest(log, **named)
        self.assertIs(type(got), int)
        self.assertEqual(got, wanted)
        self.assertEqual(fewest(log=log, **named), wanted)
        self.check_story(story_of(log, **named), log, rules, wanted)
        self.check_apart(log, rules, wanted)
        self.check_equal(log, before)

    def check_apart(self, log, rules, wanted):
        found = apart(log, rules=rules)
        self.assertIs(type(found), list)
        self.assertEqual(len(found), wanted)
        self.assertEqual(len(set(found)), wanted)
        self.assertLessEqual(set(found), set(demands(log)))
        for one, other in itertools.combinations(found, 2):
            self.assertIs(can_be_one(one, other, rules=rules), False)
        self.assertIs(is_apart(log, found, rules=rules), True)

    def test_no_demands(self):
        for log in (
            Log(), Log([[]]), Log([[], [], []]), Log([[Ask([])], [Ask([])]]), log_of({X: "+"}), log_of({X: "-"}),
            log_of({X: "+++", Y: "-.-"}), log_of({X: "+..", Y: ".-."}), Log([[Piece("a", Form(), None, ["x"], True)]]),
        ):
            self.check_fewest(log, 0)
            self.check_fewest(log, 0, rules=NEAR)

    def test_one_demand(self):
        for signs in ("+-", "-+", "+..-", ".-.+."):
            for rules in (None, Rules(), NEAR):
                self.check_fewest(log_of({X: signs}), 1, rules=rules)

    def test_windows_that_touch_and_miss(self):
        for gone, come, wanted in [
            ("+-", "-+", 1), ("+-.", "-.+", 1), ("+-.", ".-+", 2), (".+-", "-+.", 2), ("+.-.", ".-.+", 1),
            ("+.-..", "..-.+", 2), ("+...-", ".-+..", 1), ("..+-..", "-....+", 1), ("+-....", "....-+", 2),
            (".+.-", "-.+.", 1), ("++--", "---+", 2), ("++--", "--++", 1), ("+++-", "-..+", 1),
        ]:
            for place in (Y, B, FAR):
                log = log_of({X: gone, place: come})
                self.check_fewest(log, wanted)
                self.check_fewest(log, wanted if place == Y else 2, rules=NEAR)
                self.check_fewest(log, 2, rules=Rules(barred=[(X, place)]))
                self.check_fewest(log, wanted, rules=Rules(barred=[(place, X)]))

    def test_two_of_one_way(self):
        for rules in (None, NEAR):
            self.check_fewest(log_of({X: "+-", Y: "+-"}), 2, rules=rules)
            self.check_fewest(log_of({X: "-+", Y: "-+"}), 2, rules=rules)

    def test_careless_pairs(self):
        # The first going can be one with both comings, the second one with the first coming alone.
        self.check_fewest(log_of({X: "+..-", Y: "+-..", ("a", "p"): "-+..", ("a", "q"): "..-+"}), 2)
        self.check_fewest(log_of({X: "+-..", Y: "+..-", ("a", "p"): "-+..", ("a", "q"): "..-+"}), 2)
        self.check_fewest(log_of({X: "+..-", Y: "..+-", ("a", "p"): "-+..", ("a", "q"): "..-+"}), 2)
        self.check_fewest(log_of({X: "..+-", Y: "+..-", ("a", "p"): "..-+", ("a", "q"): "-+.."}), 2)

    def test_many_goings_and_few_comings(self):
        rows = {place: "+-" for place in GONE}
        rows.update({place: "-+" for place in COME[:3]})
        self.check_fewest(log_of(rows), 8)
        self.check_fewest(log_of(rows), 11, rules=NEAR)
        self.check_fewest(log_of({place: signs[::-1] for place, signs in rows.items()}), 8)

    def test_a_ladder_of_pairs(self):
        # Going k can be one with the comings k and k + 1, the last one with its own alone: only one way to pair all.
        for rows in ([0, 1, 2, 3, 4, 5, 6, 7], [7, 6, 5, 4, 3, 2, 1, 0], [3, 7, 0, 5, 1, 6, 2, 4]):
            free = [(GONE[k], COME[at]) for k in range(8) for at in (k, k + 1) if at < 8]
            pairs = itertools.product(GONE, COME)
            rules = Rules(barred=[pair for pair in pairs if pair not in free])
            said = {GONE[k]: "+-" for k in rows}
            said.update({COME[k]: "-+" for k in rows})
            self.check_fewest(log_of(said), 8, rules=rules)
            short = Rules(barred=rules.barred + [(GONE[7], COME[7])])
            self.check_fewest(log_of(said), 9, rules=short)

    def test_goings_that_share_a_coming(self):
        barred = [(one, other) for one in GONE for other in COME[1:]]
        rows = {place: "+-" for place in GONE}
        rows.update({place: "-+" for place in COME})
        self.check_fewest(log_of(rows), 15, rules=Rules(barred=barred))

    def test_a_place_that_goes_and_comes_again(self):
        self.check_fewest(log_of({X: "+-+-+"}), 4)
        self.check_fewest(log_of({X: "+-+-+", Y: "-+-+-"}), 4)
        self.check_fewest(log_of({X: "+-+-+", Y: "-+-+-"}), 6, rules=Rules(barred=[(X, Y)]))
        self.check_fewest(log_of({X: "+-+-+", Y: "-+-+-"}), 8, rules=Rules(barred=[(X, Y), (Y, X)]))
        self.check_fewest(log_of({X: "+.-.+", Y: ".+.-."}), 2)
        self.check_fewest(log_of({X: "-+-+-+-", Y: "+.....-", B: "-.+-.+."}), 6)

    def test_no_pair_for_a_place_with_itself(self):
        self.check_fewest(log_of({X: "+-.+"}), 2)

    def test_pieces_in_different_forms(self):
        back, chains = Form(BACKWARDS), Form(chains=2)
        log = Log([
            [Piece("a", Form(), None, ["u", "x"], False), Piece("a", back, None, ["x", "u"], True)],
            [Piece("a", chains, None, ["u"], False)],
            [Piece("a", back, None, ["y"], False), Piece("b", back, "c", [], True)],
            [Piece("a", Form(), "w", ["y"], True), Piece("b", chains, None, ["a"], True)],
        ])
        self.assertEqual(
            demands(log), [(("a", "x"), 0, 3, "go"), (("a", "y"), 0, 2, "come"), (("b", "a"), 2, 3, "come")]
        )
        self.check_fewest(log, 2)
        self.check_fewest(log, 2, rules=NEAR)
        self.check_fewest(log, 3, rules=Rules(across=False, barred=[(X, Y)]))
        self.check_fewest(log, 2, rules=Rules(barred=[(X, Y)]))

    def test_two_whole_readings(self):
        form, told, again = Form(chains=2), ["a", "b", "c", "f"], ["b", "c", "d", "e", "g"]
        log = Log()
        for names in (form.ordered(told), form.ordered(again)):
            for k in range(0, len(names), 2):
                mark = names[k - 1] if k else None
                log += [Piece("docs", form, mark, names[k:k + 2], k + 2 >= len(names))]
        self.assertEqual([row[0][1] for row in demands(log)], ["a", "d", "e", "f", "g"])
        self.check_fewest(log, Search(log, [("docs", name) for name in "abcdefg"]).fewest())

    def test_example_of_section_7(self):
        reading = [Piece("docs", Form(), None, ["a", "b"], False), Piece("docs", Form(), "b", ["d"], True)]
        again = [Piece("docs", Form(), None, ["b", "c"], False), Piece("docs", Form(), "c", [], True)]
        log = Log([[reading[0]], [reading[1]], [again[0]], [again[1]]])
        self.assertEqual(demands(log)[1], (("docs", "c"), 1, 2, "come"))
        self.check_fewest(log.part([0, 1]), 0)
        self.check_fewest(log, 2)

    def test_stories_with_chains_and_rings(self):
        a, b, c, d = X, Y, Z, B
        for first, changes in [
            ([a, b], [(0, "rename", b, c), (0, "rename", a, b)]),
            ([a, b], [(0, "rename", a, c), (0, "rename", b, a), (0, "rename", c, b)]),
            ([a, b, c], [(0, "rename", c, d), (0, "rename", b, c), (0, "rename", a, b), (0, "rename", d, a)]),
            ([a], [(0, "rename", a, b), (0, "rename", b, a), (1, "rename", a, b), (1, "rename", b, c)]),
            ([a], [(0, "rename", a, b), (1, "rename", b, c), (2, "rename", c, a)]),
            ([a, b], [(0, "take", a), (0, "rename", b, a), (0, "add", b), (1, "take", b), (1, "rename", a, b)]),
        ]:
            story = Story(first, changes)
            for rules in (None, NEAR, Rules(barred=[(a, b)]), Rules(barred=[(a, c), (b, c)])):
                asks = [[Ask([(place, place in story.at(k)) for place in PLACES])] for k in range(4)]
                for rows in ([0, 1, 2, 3], [0, 2, 3], [0, 1, 3], [0, 3]):
                    log = Log(asks).part(rows)
                    self.check_fewest(log, Search(log, PLACES, rules=rules).fewest(), rules=rules)

    def test_by_chance(self):
        chance = random.Random()
        found = []
        for seed in range(250):
            rules, story, log = chance_case(seed, chance)
            wanted = Search(log, PLACES + [SPARE], rules=rules).fewest()
            found.append(wanted)
            self.check_fewest(log, wanted, rules=rules)
            self.assertLessEqual(wanted, len(story))
        self.assertGreater(len([many for many in found if many > 2]), 50)

    def test_logs_that_clash(self):
        chance = random.Random()
        wrong = [wrong_log(chance, chance_case(seed, chance)[2]) for seed in range(40)]
        logs = clashing_logs() + [log for log in wrong if log is not None]
        self.assertGreater(len(logs), 30)
        for log in logs:
            for call in CALLS:
                self.assertIs(call(log), None)
                self.assertIs(call(log, rules=NEAR), None)

    def test_only_what_is_asked_for(self):
        log = log_of({X: "+-", Y: "-+"})
        log += [Ask([(Z, True)])]
        self.check_fewest(log, 1)
        log[2] = [Ask([(X, True)])]
        self.check_fewest(log, 2)
        log[1] = [Ask([(X, False)]), Ask([(X, True)])]
        self.assertIs(fewest(log), None)


class ResultsTest(CountCase):
    """What [2] says of results."""

    def test_equal_calls(self):
        chance = random.Random()
        for seed in range(60):
            rules, _, log = chance_case(seed, chance)
            for call in CALLS:
                self.assertEqual(call(log, rules=rules), call(log.copy(), rules=rules))
        for call in CALLS:
            log = log_of({X: "+-", Y: "-+", B: "-+"})
            self.assertEqual(call(log), call(log, rules=None))
            self.assertEqual(call(log), call(log, rules=Rules()))

    def test_answers_in_another_order(self):
        answers = [(X, True), (Y, False), (Z, True), (B, False)]
        last = [(place, not stands) for place, stands in answers]
        log, other = Log([[Ask(answers)], [Ask(last)]]), Log([[Ask(answers[::-1])], [Ask(last[::-1])]])
        for call in CALLS:
            self.assertEqual(call(log), call(other))

    def test_a_new_story_each_time(self):
        log = log_of({X: "+-.", Y: "-+.", Z: "..+"})
        story = story_of(log)
        story += (1, "take", Z)
        self.assertEqual(len(story), 2)
        self.check_story(story_of(log), log, None, 1)

    def test_a_new_list_each_time(self):
        log = log_of({X: "+-", Y: "-+", Z: "+-"})
        apart(log).clear()
        self.assertEqual(len(apart(log)), 2)


class IsApartTest(Case):
    """What counts as a list of demands that shows that no story has fewer changes."""

    def setUp(self):
        self.log = log_of({X: "+-..+", Y: "-+.-.", Z: "+..-.", B: "..-+."})
        self.rows = demands(self.log)

    def test_all_lists_of_demands(self):
        for rules in (None, Rules(), NEAR, Rules(barred=[(X, Y), (Z, B)]), Rules(barred=[(Y, X)])):
            found = []
            for many in range(len(self.rows) + 1):
                for claim in itertools.combinations(self.rows, many):
                    pairs = itertools.combinations(claim, 2)
                    wanted = not any(can_be_one(one, other, rules=rules) for one, other in pairs)
                    self.assertIs(is_apart(self.log, list(claim), rules=rules), wanted)
                    self.assertIs(is_apart(self.log, list(claim)[::-1], rules=rules), wanted)
                    if wanted:
                        found.append(many)
            self.assertEqual(max(found), fewest(self.log, rules=rules))

    def test_parts_of_the_list(self):
        found = apart(self.log)
        self.assertEqual(len(found), fewest(self.log))
        self.assertGreater(len(found), 2)
        for many in range(len(found) + 1):
            for claim in itertools.permutations(found, many):
                self.assertIs(is_apart(log=self.log, claim=list(claim)), True)
        self.assertIs(is_apart(self.log, self.rows), False)
        self.assertIs(is_apart(self.log, []), True)
        self.assertIs(is_apart(Log(), []), True)

    def test_any_value(self):
        for value in every_value():
            self.assertIs(is_apart(self.log, value), isinstance(value, list) and not value)
            for row in self.rows[:2]:
                self.assertIs(is_apart(self.log, [value, row]), False)
                self.assertIs(is_apart(self.log, [row, value]), False)

    def test_wrong_claims(self):
        log = log_of({X: "-+-", Y: "-+."})
        one, other = (X, 0, 1, "come"), (X, 1, 2, "go")
        self.assertIs(is_apart(log, [one, other]), True)
        for claim in [
            [one, one], [one, other, one], (one, other), {one: other}, {one: True}, one, [[one, other]], [(one, other)],
            [list(one)], [one, list(other)], [(list(X), 0, 1, "come")], [(X, 0, True, "come")],
            [(X, False, 1, "come")], [(X, True, 2, "go")], [(X, 0, 1, "go")], [(X, 0, 2, "come")], [(X, 0, 1)],
            [one + ("come",)], [(Z, 0, 1, "come")], [one, (Z, 1, 2, "go")], [one, None], [X], ["come"], [one[1:]],
            [(Y, 0, 1, "go")], [(X, 0, 10 ** 39, "come")], [(X, -1, 1, "come")], [(X, 0, 1, "COME")],
            [(X, 0, 1, ["come"])], [({}, 0, 1, "come")], [one, log], [Rules()], [()],
        ]:
            self.assertIs(is_apart(log, claim), False)

    def test_demands_of_another_log(self):
        other = log_of({X: "+-..+", Y: "-+.-.", Z: "+...-", B: "..-+."})
        for row in demands(other):
            self.assertIs(is_apart(self.log, [row]), row in self.rows)
        self.assertIs(is_apart(other, [(Z, 0, 4, "go")]), True)
        self.assertIs(is_apart(self.log, [(Z, 0, 4, "go")]), False)

    def test_long_claims(self):
        self.assertIs(is_apart(self.log, self.rows * 60), False)
        self.assertIs(is_apart(self.log, [(X, k, k + 1, "go") for k in range(300)]), False)
        self.assertIs(is_apart(self.log, [None] * 300), False)

    def test_logs_that_clash(self):
        for log in clashing_logs():
            for value in every_value() + [self.rows, [(X, 0, 1, "go")]]:
                self.assertIs(is_apart(log, value), False)

    def test_the_claim_stays(self):
        claim = apart(self.log)
        before = list(claim)
        is_apart(self.log, claim)
        self.assertEqual(claim, before)


class ErrorsTest(Case):
    def calls(self):
        return [(call, ()) for call in CALLS] + [(is_apart, (claim,)) for claim in ([], None, [(X, 0, 1, "go")])]

    def test_no_logs(self):
        for value in not_of(Log) + [[], [[]], Log]:
            for call, rest in self.calls():
                self.check_raises(InvalidLog, value, call, value, *rest)
                self.check_raises(InvalidLog, value, call, value, *rest, rules=1)

    def test_no_rules(self):
        for log in [Log(), log_of({X: "+-", Y: "-+"})] + clashing_logs()[:2]:
            for value in not_of(Rules) + [Rules]:
                if value is not None:
                    for call, rest in self.calls():
                        self.check_raises(InvalidRules, value, call, log, *rest, rules=value)

    def test_rules_only_by_name(self):
        log = log_of({X: "+-", Y: "-+"})
        for call, rest in self.calls():
            with self.assertRaises(TypeError):
                call(log, *rest, Rules())
