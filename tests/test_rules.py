"""Tests of the points [40] and [41], and of [2] as far as it concerns rules."""

import itertools
import random

from betweenlists.errors import InvalidPlace, InvalidRules
from betweenlists.rules import Rules
from tests.cases import Case
from tests.values import every_value, no_lists, no_places, not_of

AX, AY, AZ, BX, BY = ("a", "x"), ("a", "y"), ("a", "z"), ("b", "x"), ("b", "y")
PLACES = [AX, AY, AZ, BX, BY, ("x", "a"), ("c", "x")]
PAIRS = list(itertools.product(PLACES, PLACES))


def in_reach(across, pair):
    """What rules that bar nothing allow, by the words of [40]."""
    (folder, name), (other_folder, other_name) = pair
    if folder == other_folder:
        return name != other_name
    return across


def allowed_pairs(rules):
    return [pair for pair in PAIRS if rules(*pair)]


class RulesTest(Case):
    def check_rules(self, rules, across, allowed):
        """The rules allow just these renamings of the places of this file, and have the properties that follow."""
        self.assertIs(type(rules), Rules)
        for pair in PAIRS:
            self.assertIs(rules(*pair), pair in allowed)
        self.assertIs(rules.across, across)
        barred = rules.barred
        self.assertIs(type(barred), list)
        self.assertEqual(barred, sorted(pair for pair in PAIRS if in_reach(across, pair) and pair not in allowed))
        self.check_equal(rules, Rules(across=across, barred=barred))

    def check_given(self, across, barred):
        """Rules that are made of these arguments."""
        allowed = [pair for pair in PAIRS if in_reach(across, pair) and pair not in barred]
        self.check_rules(Rules(across=across, barred=barred), across, allowed)

    def check_no_rules(self, across, barred):
        self.check_raises_with(InvalidRules, (across, barred), lambda: Rules(across=across, barred=barred))
        self.check_raises_with(InvalidRules, (across, barred), lambda: Rules(barred=barred, across=across))


class MakingTest(RulesTest):
    """Point [40]."""

    def test_defaults(self):
        everything = [pair for pair in PAIRS if pair[0] != pair[1]]
        for rules in (
            Rules(), Rules(across=True), Rules(barred=None), Rules(barred=[]), Rules(barred=None, across=True),
        ):
            self.check_rules(rules, True, everything)
        self.check_rules(Rules(barred=[(AX, AY)]), True, [pair for pair in everything if pair != (AX, AY)])

    def test_within_one_folder(self):
        inside = [pair for pair in PAIRS if pair[0] != pair[1] and pair[0][0] == pair[1][0]]
        for rules in (Rules(across=False), Rules(across=False, barred=None), Rules(across=False, barred=[])):
            self.check_rules(rules, False, inside)

    def test_barred(self):
        for across in (True, False):
            for barred in (
                [], [(AX, AY)], [(AY, AX)], [(AX, AY), (AY, AX)], [(AX, BX)], [(BX, AX), (AX, AY)], [(AX, AX)],
                [(AX, AY), (AX, AY)], [(BX, AX), (BX, AX), (BX, BX)], [(BY, BX), (AZ, BX), (AX, AZ), (AX, AY)],
                [(AX, ("x", "a"))], list(reversed(PAIRS)),
            ):
                self.check_given(across, barred)

    def test_far_places(self):
        far = ("abcdefgh", "zzzzzzzz")
        rules = Rules(barred=[(far, AX)])
        self.assertIs(rules(far, AX), False)
        self.assertIs(rules(AX, far), True)
        self.assertIs(rules(far, ("abcdefgh", "a")), True)
        self.assertIs(Rules(across=False)(far, ("abcdefgh", "a")), True)
        self.assertIs(Rules(across=False)(far, AX), False)

    def test_wrong_across(self):
        for across in not_of(bool) + [0, 1, None, "True", [True], (True,)]:
            self.check_no_rules(across, [])
            self.check_no_rules(across, None)
            self.check_no_rules(across, [(AX, AY)])
            self.check_raises_with(InvalidRules, (across, None), lambda: Rules(across=across))

    def test_wrong_barred(self):
        right = ([],)
        for barred in every_value() + [(), ((AX, AY),), (AX, AY), {(AX, AY): True}, True, False, 0, Rules(), ""]:
            if barred is not None and barred not in right:
                self.check_no_rules(True, barred)
                self.check_no_rules(False, barred)
                self.check_raises_with(InvalidRules, (True, barred), lambda: Rules(barred=barred))

    def test_wrong_items(self):
        for item in every_value() + [[AX, AY], (AX,), (AX, AY, AZ), (AX, list(AY)), (list(AX), AY), AX, (AX, None)]:
            if item != (("a", "b"), ("c", "d")):
                for barred in ([item], [(AX, AY), item], [item, (AX, AY)]):
                    self.check_no_rules(True, barred)
                    self.check_no_rules(False, barred)
        for place in no_places():
            self.check_no_rules(True, [(place, AX)])
            self.check_no_rules(False, [(AX, AY), (AX, place)])

    def test_both_wrong(self):
        for across, barred in itertools.product([None, 1, 0, "x", [], Rules()], [(), 1, True, [None], [AX], "x"]):
            self.check_no_rules(across, barred)

    def test_only_by_name(self):
        for arguments in [(True,), (False, []), (True, None), (None,)]:
            with self.assertRaises(TypeError):
                Rules(*arguments)

    def test_the_given_list_may_change(self):
        barred = [(AY, AX), (AX, AY)]
        rules = Rules(barred=barred)
        self.assertEqual(barred, [(AY, AX), (AX, AY)])
        barred.append((BX, BY))
        barred[0] = (BY, BX)
        self.assertEqual(rules.barred, [(AX, AY), (AY, AX)])
        self.assertIs(rules(AY, AX), False)
        self.assertIs(rules(BX, BY), True)
        self.assertIs(rules(BY, BX), True)

    def test_returned_lists_may_change(self):
        rules = Rules(barred=[(AX, AY)])
        rules.barred.append((BX, BY))
        rules.barred.clear()
        self.assertIsNot(rules.barred, rules.barred)
        self.assertEqual(rules.barred, [(AX, AY)])
        self.assertIs(rules(AX, AY), False)

    def test_called_by_position_and_by_name(self):
        rules = Rules(barred=[(AX, AY)])
        self.assertIs(rules(one=AX, other=AY), False)
        self.assertIs(rules(other=AX, one=AY), True)

    def test_called_with_no_places(self):
        for rules in (Rules(), Rules(across=False), Rules(barred=[(AX, AY)])):
            for value in no_places():
                self.check_raises(InvalidPlace, value, rules, value, AX)
                self.check_raises(InvalidPlace, value, rules, AX, value)
                self.check_raises(InvalidPlace, value, rules, one=value, other=["a", "x"])
        one, other = ["a", "x"], ["a", "x"]
        self.check_raises(InvalidPlace, one, Rules(), one, other)


class PropertiesTest(RulesTest):
    """Point [41]: properties and equality."""

    def test_barred_of_given_ones(self):
        given = [(BX, AX), (AY, AX), (AX, AX), (AX, AY), (AY, AX), (BX, BY), (BX, BX)]
        self.assertEqual(Rules(barred=given).barred, [(AX, AY), (AY, AX), (BX, AX), (BX, BY)])
        self.assertEqual(Rules(across=False, barred=given).barred, [(AX, AY), (AY, AX), (BX, BY)])
        self.assertEqual(Rules(across=False, barred=[(AX, BX)]).barred, [])
        self.assertEqual(Rules(barred=[(AX, AX)]).barred, [])

    def test_properties_cannot_be_mistaken(self):
        for across in (True, False):
            self.assertIs(Rules(across=across).across, across)
            self.assertEqual(Rules(across=across).barred, [])

    def test_equal_by_what_is_allowed(self):
        self.check_equal(Rules(), Rules(across=True, barred=[]))
        self.check_equal(Rules(), Rules(barred=[(AX, AX)]))
        self.check_equal(Rules(across=False), Rules(across=False, barred=[(AX, BX), (BY, AX)]))
        self.check_equal(Rules(barred=[(AX, AY), (BX, AY)]), Rules(barred=[(BX, AY), (AX, AY), (BX, AY)]))
        self.check_equal(Rules(across=False, barred=[(AX, AY)]), Rules(across=False, barred=[(BX, AY), (AX, AY)]))

    def test_unequal(self):
        different = [
            Rules(), Rules(across=False), Rules(barred=[(AX, AY)]), Rules(barred=[(AY, AX)]), Rules(barred=[(AX, BX)]),
            Rules(across=False, barred=[(AX, AY)]), Rules(barred=[(AX, AY), (AX, BX)]),
            Rules(across=False, barred=[(AX, AY), (AY, AX)]), Rules(barred=[(AX, ("c", "x"))]),
        ]
        for one, other in itertools.combinations(different, 2):
            self.check_unequal(one, other)

    def test_not_equal_to_other_objects(self):
        for rules in (Rules(), Rules(across=False, barred=[(AX, AY)])):
            for value in not_of(Rules) + [(True, None), (True, []), True, []]:
                self.check_unequal(rules, value)


class TogetherTest(RulesTest):
    """Point [41]: `&`, `|`, `within` and `turned`."""

    def some_rules(self):
        inside = [(AX, AY), (AY, AX), (BX, BY), (AX, AZ)]
        outside = [(AX, BX), (BX, AX), (AY, BY)]
        mixed = [inside[:2] + outside[:2], [(AX, AX), (AX, AY)]]
        some = [[], inside[:1], inside[1:3], inside, outside[:1], outside] + mixed
        made = [Rules(across=across, barred=barred) for across in (True, False) for barred in some]
        chance = random.Random(41)
        for _ in range(20):
            made.append(Rules(across=chance.random() < 0.5, barred=chance.sample(PAIRS, chance.randint(0, 20))))
        return made

    def test_both(self):
        for one, other in itertools.product(self.some_rules(), repeat=2):
            allowed = [pair for pair in PAIRS if one(*pair) and other(*pair)]
            self.check_rules(one & other, one.across and other.across, allowed)

    def test_either(self):
        for one, other in itertools.product(self.some_rules(), repeat=2):
            allowed = [pair for pair in PAIRS if one(*pair) or other(*pair)]
            self.check_rules(one | other, one.across or other.across, allowed)

    def test_one_of_them_across(self):
        wide = Rules(barred=[(AX, AY), (AX, BX), (AY, AX)])
        narrow = Rules(across=False, barred=[(AY, AX), (BX, BY)])
        for both in (wide & narrow, narrow & wide):
            self.assertIs(both.across, False)
            self.assertEqual(both.barred, [(AX, AY), (AY, AX), (BX, BY)])
        for either in (wide | narrow, narrow | wide):
            self.assertIs(either.across, True)
            self.assertEqual(either.barred, [(AX, BX), (AY, AX)])
            self.assertIs(either(AX, AY), True)
            self.assertIs(either(AX, BX), False)
            self.assertIs(either(BX, AX), True)

    def test_three_of_them(self):
        for one, two, three in itertools.product(self.some_rules()[::5], repeat=3):
            self.check_equal((one & two) & three, one & (two & three))
            self.check_equal((one | two) | three, one | (two | three))
            self.check_equal((one | two) & three, (one & three) | (two & three))

    def test_the_two_stay(self):
        for one, other in itertools.product(self.some_rules()[::4], repeat=2):
            before = [(rules.across, rules.barred, allowed_pairs(rules)) for rules in (one, other)]
            results = [one & other, one | other, one.turned(), one.within(other)]
            results[0].barred.clear()
            self.assertEqual([(rules.across, rules.barred, allowed_pairs(rules)) for rules in (one, other)], before)

    def test_within(self):
        for one, other in itertools.product(self.some_rules(), repeat=2):
            wanted = all(other(*pair) for pair in PAIRS if one(*pair))
            if one.across and not other.across:
                wanted = False
            self.assertIs(one.within(other), wanted)
            self.assertIs(one.within(other=other), wanted)
            self.assertIs((one & other).within(one), True)
            self.assertIs(one.within(one | other), True)
            self.assertIs(one.within(other) and other.within(one), one == other)

    def test_within_where_one_goes_across(self):
        # All renamings of the places of this file across folders are barred, but not those of other places.
        wide = Rules(barred=[pair for pair in PAIRS if pair[0][0] != pair[1][0]])
        narrow = Rules(across=False)
        self.assertEqual(allowed_pairs(wide), allowed_pairs(narrow))
        self.assertIs(wide.within(narrow), False)
        self.assertIs(narrow.within(wide), True)
        self.check_unequal(wide, narrow)
        self.check_equal(wide & narrow, narrow)
        self.check_equal(wide | narrow, wide)

    def test_within_raises(self):
        for rules in (Rules(), Rules(across=False, barred=[(AX, AY)])):
            for value in not_of(Rules) + [None, (True, []), Rules]:
                self.check_raises(InvalidRules, value, rules.within, value)

    def test_turned(self):
        for rules in self.some_rules():
            turned = rules.turned()
            self.assertIsNot(turned, rules)
            self.check_rules(turned, rules.across, [(other, one) for one, other in allowed_pairs(rules)])
            self.check_equal(turned.turned(), rules)
        self.assertEqual(Rules(barred=[(AX, BX), (BY, AY), (AX, AY)]).turned().barred, [(AY, AX), (AY, BY), (BX, AX)])
        self.check_unequal(Rules(barred=[(AX, AY)]), Rules(barred=[(AX, AY)]).turned())

    def test_only_lists(self):
        for value in no_lists():
            if value is not None:
                self.check_no_rules(True, value)
