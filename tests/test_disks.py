"""Tests of the points [120] to [125], of copies ([128]), and of [2] as far as it concerns disks."""

import itertools
import random

from betweenlists.disks import Disk
from betweenlists.errors import (
    Barred, Failed, InvalidChange, InvalidForm, InvalidList, InvalidName, InvalidPlace, InvalidRules, Missing, Occupied,
)
from betweenlists.forms import Form
from betweenlists.logs import Log
from betweenlists.looks import Ask
from betweenlists.rules import Rules
from betweenlists.stories import Story
from tests.cases import Case
from tests.values import BACKWARDS, every_value, names, no_names, no_places, not_of

X, Y, Z, B = ("a", "x"), ("a", "y"), ("a", "z"), ("b", "x")
PLACES = [X, Y, Z, B]
FOLDERS = ["a", "b", "c", "docs", "abcdefgh"]
BACK = Form(BACKWARDS)
NEAR = Rules(across=False)


def backs(disk):
    """What the disk would take back, one after another, whatever the rules."""
    disk = disk.copy()
    disk.obey(None)
    return list(iter(disk.back, None))


def state_of(disk):
    """All that can be asked of a disk."""
    log, story = disk.log, disk.story()
    moments = [[(look, look.standing()) for look in log[k]] for k in range(len(log))]
    changes = None if story is None else (story.first, [story[k] for k in range(len(story))])
    forms = [(disk[folder].letters, disk[folder].chains) for folder in FOLDERS]
    rules = (disk.rules.across, disk.rules.barred)
    return (disk.standing(), len(disk), disk.made, moments, changes, forms, rules, backs(disk))


class DiskCase(Case):
    def check_refused(self, disk, error, fields, call, *args, **named):
        """The call raises just this error with these very fields, and the disk stays as it was."""
        before = state_of(disk)
        with self.assertRaises(error) as held:
            call(*args, **named)
        self.assertIs(type(held.exception), error)
        for name, value in fields.items():
            self.assertIs(getattr(held.exception, name), value)
        self.assertEqual(state_of(disk), before)
        return held.exception

    def check_standing(self, disk, wanted):
        self.assertEqual(disk.standing(), sorted(wanted))
        self.assertEqual(len(disk), len(wanted))
        for place in PLACES:
            self.assertIs(place in disk, place in wanted)


class MakingTest(DiskCase):
    """Point [120]."""

    def test_none(self):
        for disk in (Disk(), Disk(None), Disk([]), Disk(None, form=None, rules=None), Disk(first=[])):
            self.check_standing(disk, [])
            self.assertEqual((disk.made, len(disk.log), disk.story()), (0, 0, None))
            for folder in FOLDERS:
                self.check_equal(disk[folder], Form())
            self.check_equal(disk.rules, Rules())
            self.assertIs(disk.back(), None)

    def test_first(self):
        first = [B, Z, X]
        disk = Disk(first)
        first.clear()
        self.check_standing(disk, [B, X, Z])
        disk.standing().clear()
        self.check_standing(Disk(first=[X]), [X])
        self.check_standing(disk, [B, X, Z])

    def test_form_and_rules(self):
        disk = Disk([X], form=BACK, rules=NEAR)
        for folder in FOLDERS + names():
            self.check_equal(disk[folder], BACK)
        self.check_equal(disk.rules, NEAR)

    def test_no_lists_of_places(self):
        values = not_of(list) + [[X, X], [X, Y, X], [X, list(Y)], [X, "y"], [X, None], [X, ("a", "Y")], [[X]], (X,)]
        for value in values + [[value] for value in no_places()] + [[X, value] for value in no_places()]:
            if value is not None:
                self.check_raises(InvalidList, value, Disk, value)
                self.check_raises(InvalidList, value, Disk, first=value, form=1, rules=1)

    def test_no_forms(self):
        for value in not_of(Form) + [Form]:
            if value is not None:
                self.check_raises(InvalidForm, value, Disk, [X], form=value)
                self.check_raises(InvalidForm, value, Disk, form=value, rules=1)

    def test_no_rules(self):
        for value in not_of(Rules) + [Rules]:
            if value is not None:
                self.check_raises(InvalidRules, value, Disk, rules=value)
                self.check_raises(InvalidRules, value, Disk, [X], form=BACK, rules=value)

    def test_only_by_name(self):
        with self.assertRaises(TypeError):
            Disk([X], Form())


class ChangesTest(DiskCase):
    """Point [121]."""

    def test_changes(self):
        disk = Disk([X])
        self.assertIs(disk.add(Y), None)
        self.check_standing(disk, [X, Y])
        self.assertIs(disk.take(place=X), None)
        self.check_standing(disk, [Y])
        self.assertIs(disk.rename(one=Y, other=B), None)
        self.check_standing(disk, [B])
        disk.add(place=X)
        disk.rename(B, Z)
        self.check_standing(disk, [X, Z])
        self.assertEqual(disk.made, 5)

    def test_missing(self):
        disk = Disk([X, B])
        for place in (Y, Z, ("c", "x"), ("a", "xx")):
            self.check_refused(disk, Missing, {"place": place}, disk.take, place)
            self.check_refused(disk, Missing, {"place": place}, disk.rename, place, Z)
            self.check_refused(disk, Missing, {"place": place}, disk.rename, place, X)
            self.check_refused(disk, Missing, {"place": place}, disk.rename, place, place)

    def test_occupied(self):
        disk = Disk([X, B])
        for place in (X, B):
            self.check_refused(disk, Occupied, {"place": place}, disk.add, place)
            for one in (X, B):
                self.check_refused(disk, Occupied, {"place": place}, disk.rename, one, place)

    def test_barred(self):
        disk = Disk([X, B], rules=Rules(across=False, barred=[(X, Y)]))
        self.check_refused(disk, Barred, {"one": X, "other": Y}, disk.rename, X, Y)
        self.check_refused(disk, Barred, {"one": B, "other": Y}, disk.rename, B, Y)
        self.check_refused(disk, Barred, {"one": X, "other": ("c", "x")}, disk.rename, X, ("c", "x"))
        disk.rename(X, Z)
        disk.rename(Z, Y)
        disk.rename(Y, X)
        self.check_standing(disk, [X, B])

    def test_order_of_the_errors(self):
        wrong = ["a", "x"]
        for rules in (None, NEAR, Rules(barred=[(Y, B), (X, B), (Y, Y)])):
            disk = Disk([X, B], rules=rules)
            self.check_refused(disk, InvalidPlace, {"value": wrong}, disk.rename, wrong, "x")
            self.check_refused(disk, InvalidPlace, {"value": wrong}, disk.rename, wrong, X)
            self.check_refused(disk, InvalidPlace, {"value": wrong}, disk.rename, Y, wrong)
            self.check_refused(disk, InvalidPlace, {"value": wrong}, disk.rename, other=wrong, one=X)
            self.check_refused(disk, Missing, {"place": Y}, disk.rename, Y, B)
            self.check_refused(disk, Missing, {"place": Y}, disk.rename, Y, Z)
            self.check_refused(disk, Missing, {"place": Y}, disk.rename, Y, Y)
            self.check_refused(disk, Occupied, {"place": B}, disk.rename, X, B)
            self.check_refused(disk, Occupied, {"place": X}, disk.rename, X, X)

    def test_no_places(self):
        disk = Disk([X])
        disk.ask([X])
        disk.add(Y)
        for value in no_places():
            self.check_refused(disk, InvalidPlace, {"value": value}, disk.add, value)
            self.check_refused(disk, InvalidPlace, {"value": value}, disk.take, value)
            self.check_refused(disk, InvalidPlace, {"value": value}, disk.rename, value, Z)
            self.check_refused(disk, InvalidPlace, {"value": value}, disk.rename, Z, value)


def no_changes():
    """Values that are no changes of a list, whatever stands."""
    wrong = [
        ("add",), ("add", X, Y), ("take",), ("take", X, Y), ("rename", X), ("rename", X, Y, Z), ("Add", X), ("", X),
        ("adds", X), ("move", X, Y), ("rename",), ["add", Y], ("add", list(Y)), ("add", "y"), ("add", ("a", "Y")),
        ("take", None), ("rename", X, list(Y)), ("rename", list(X), Y), ("rename", (X, Y)), (("add", Y),), (X, "add"),
        (0, "add", Y), (0, "take", X), (0, "rename", X, Y), (True, Y), (None, Y), (["add"], Y), (("add",), Y), X,
        (X, Y),
        ("add", "take", X), {"add": Y},
    ]
    for value in no_places():
        wrong += [("add", value), ("take", value), ("rename", value, Y), ("rename", X, value)]
    return wrong + every_value()


class MakeTest(DiskCase):
    """Point [122]."""

    def test_the_empty_list(self):
        disk = Disk([X])
        before = state_of(disk)
        self.assertIs(disk.make([]), None)
        self.assertEqual(state_of(disk), before)

    def test_several(self):
        disk = Disk([X, B])
        changes = [("take", X), ("rename", B, X), ("add", B), ("rename", X, Y), ("take", B), ("add", B)]
        before = list(changes)
        self.assertIs(disk.make(changes=changes), None)
        self.assertEqual(changes, before)
        self.check_standing(disk, [B, Y])
        self.assertEqual(disk.made, 6)
        changes.clear()
        self.assertEqual(backs(disk), [
            ("take", B), ("add", B), ("rename", Y, X), ("take", B), ("rename", X, B), ("add", X),
        ])

    def test_wrong_items(self):
        disk = Disk([X])
        right = [("add", Y), ("take", X)]
        for value in no_changes():
            for changes in ([value], right + [value], [value] + right, [right[0], value, right[1], ("add",)]):
                self.check_refused(disk, InvalidChange, {"value": value}, disk.make, changes)
            # Wrong items come before changes that cannot be made.
            for changes in ([("take", Z), value], [("add", X), ("add", Y), value], [value, ("take", Z)]):
                self.check_refused(disk, InvalidChange, {"value": value}, disk.make, changes)
        first, second = ("add", list(X)), ("take", list(Y))
        self.check_refused(disk, InvalidChange, {"value": first}, disk.make, [("add", Y), first, second])
        self.check_refused(disk, InvalidChange, {"value": second}, disk.make, [second, first])

    def test_no_lists(self):
        disk = Disk([X])
        for value in not_of(list) + [("add", Y), (("add", Y),), {("add", Y): True}, "add"]:
            self.check_refused(disk, InvalidChange, {"value": value}, disk.make, value)

    def check_failed(self, disk, changes, step, error, **fields):
        failed = self.check_refused(disk, Failed, {}, disk.make, changes)
        self.assertEqual(failed.step, step)
        self.assertIs(type(failed.step), int)
        self.assertIs(type(failed.why), error)
        self.assertIs(failed.__cause__, failed.why)
        self.assertEqual({name: getattr(failed.why, name) for name in fields}, fields)

    def test_failed(self):
        disk = Disk([X, B], rules=Rules(across=False, barred=[(X, Z)]))
        self.check_failed(disk, [("add", X)], 0, Occupied, place=X)
        self.check_failed(disk, [("take", Y)], 0, Missing, place=Y)
        self.check_failed(disk, [("rename", X, Z)], 0, Barred, one=X, other=Z)
        self.check_failed(disk, [("rename", X, Y), ("rename", Y, B)], 1, Occupied, place=B)
        self.check_failed(disk, [("rename", X, Y), ("rename", Y, ("c", "y"))], 1, Barred, one=Y, other=("c", "y"))
        self.check_failed(disk, [("add", Y), ("add", Z), ("take", X), ("take", X), ("take", X)], 3, Missing, place=X)
        self.check_failed(disk, [("add", Y), ("add", Y), ("take", Z)], 1, Occupied, place=Y)
        self.check_failed(disk, [("take", X), ("rename", X, X)], 1, Missing, place=X)
        self.check_failed(disk, [("rename", B, B)], 0, Occupied, place=B)
        self.check_failed(disk, [("take", B), ("rename", X, Z)], 1, Barred, one=X, other=Z)
        self.check_failed(disk, [("rename", Y, X)], 0, Missing, place=Y)

    def test_behind_earlier_changes(self):
        disk = Disk([X])
        disk.ask([X])
        disk.add(Y)
        disk.ask([Y])
        self.check_failed(disk, [("take", X), ("add", Z), ("rename", Z, B), ("take", Z)], 3, Missing, place=Z)
        disk.make([("take", X), ("add", Z), ("rename", Z, B)])
        self.check_standing(disk, [Y, B])
        disk.ask([])
        self.assertEqual(state_of(disk)[4][1], [
            (0, "add", Y), (1, "take", X), (1, "add", Z), (1, "rename", Z, B),
        ])

    def test_whole_lists_by_chance(self):
        chance = random.Random()
        failed = 0
        for seed in range(200):
            chance.seed(seed)
            pairs = list(itertools.product(PLACES, PLACES))
            rules = Rules(across=chance.random() < 0.5, barred=chance.sample(pairs, 3))
            disk, single = Disk([X, B], rules=rules), Disk([X, B], rules=rules)
            changes = []
            for _ in range(chance.randint(1, 5)):
                one, other = chance.choice(PLACES), chance.choice(PLACES)
                changes.append(chance.choice([("add", one), ("take", one), ("rename", one, other)]))
            step, error = 0, None
            while step < len(changes) and error is None:
                try:
                    getattr(single, changes[step][0])(*changes[step][1:])
                    step += 1
                except (Missing, Occupied, Barred) as wrong:
                    error = wrong
            if error is None:
                disk.make(changes)
                self.assertEqual(state_of(disk), state_of(single))
            else:
                failed += 1
                self.check_failed(disk, changes, step, type(error), **vars(error))
                disk.make(changes[:step])
                self.assertEqual(state_of(disk), state_of(single))
        self.assertTrue(50 < failed < 195)


class BackTest(DiskCase):
    """Point [123]."""

    def test_one_by_one(self):
        disk = Disk([X, B])
        disk.add(Y)
        disk.take(X)
        disk.rename(B, X)
        self.assertEqual(disk.back(), ("rename", X, B))
        self.check_standing(disk, [B, Y])
        self.assertEqual(disk.back(), ("add", X))
        self.check_standing(disk, [B, X, Y])
        self.assertEqual(disk.back(), ("take", Y))
        self.check_standing(disk, [B, X])
        self.assertEqual(disk.made, 6)
        for _ in range(3):
            before = state_of(disk)
            self.assertIs(disk.back(), None)
            self.assertEqual(state_of(disk), before)

    def test_not_taken_back_twice(self):
        disk = Disk([X])
        disk.rename(X, Y)
        disk.add(X)
        self.assertEqual(disk.back(), ("take", X))
        disk.add(Z)
        self.assertEqual(disk.back(), ("take", Z))
        self.assertEqual(disk.back(), ("rename", Y, X))
        self.assertIs(disk.back(), None)
        disk.take(X)
        self.assertEqual(disk.back(), ("add", X))
        self.assertIs(disk.back(), None)
        self.assertEqual(disk.made, 8)

    def test_over_several_lists(self):
        disk = Disk([X])
        disk.make([("add", Y), ("rename", Y, Z)])
        disk.add(B)
        disk.make([])
        disk.make([("take", X), ("take", B)])
        with self.assertRaises(Failed):
            disk.make([("add", X), ("add", X)])
        self.assertEqual([disk.back() for _ in range(6)], [
            ("add", B), ("add", X), ("take", B), ("rename", Z, Y), ("take", Y), None,
        ])
        self.check_standing(disk, [X])
        self.assertEqual(disk.made, 10)

    def test_part_of_a_list(self):
        disk = Disk([X])
        disk.make([("add", Y), ("add", Z), ("add", B)])
        self.assertEqual([disk.back(), disk.back()], [("take", B), ("take", Z)])
        disk.make([("rename", Y, B)])
        self.assertEqual([disk.back(), disk.back(), disk.back()], [("rename", B, Y), ("take", Y), None])

    def test_barred(self):
        disk = Disk([X])
        disk.rename(X, B)
        disk.obey(NEAR)
        for _ in range(2):
            self.check_refused(disk, Barred, {"one": B, "other": X}, disk.back)
        disk.add(Y)
        self.assertEqual(disk.back(), ("take", Y))
        self.check_refused(disk, Barred, {"one": B, "other": X}, disk.back)
        disk.rules = Rules(barred=[(B, X)])
        self.check_refused(disk, Barred, {"one": B, "other": X}, disk.back)
        disk.rules = Rules(barred=[(X, B)])
        self.assertEqual(disk.back(), ("rename", B, X))
        self.assertIs(disk.back(), None)

    def test_other_changes_under_other_rules(self):
        disk = Disk([X])
        disk.add(B)
        disk.take(B)
        disk.obey(Rules(across=False, barred=[(X, Y), (Y, X)]))
        self.assertEqual([disk.back(), disk.back(), disk.back()], [("add", B), ("take", B), None])

    def test_changes_of_the_story(self):
        disk = Disk([X])
        disk.ask([X])
        disk.rename(X, Y)
        disk.ask([X])
        disk.back()
        disk.ask([X])
        self.check_equal(disk.story(), Story([X], [(0, "rename", X, Y), (1, "rename", Y, X)]))

    def test_by_chance(self):
        chance = random.Random()
        for seed in range(100):
            chance.seed(seed)
            disk = Disk([X, B])
            made, states = [], [disk.standing()]
            for _ in range(chance.randint(1, 12)):
                if chance.random() < 0.3:
                    got = disk.back()
                    self.assertEqual(got is None, not made)
                    if made:
                        made.pop()
                        states.pop()
                else:
                    here = disk.standing()
                    there = [place for place in PLACES if place not in here]
                    change = chance.choice(
                        [("add", place) for place in there] + [("take", place) for place in here]
                        + [("rename", one, other) for one in here for other in there]
                    )
                    disk.make([change]) if chance.random() < 0.5 else getattr(disk, change[0])(*change[1:])
                    made.append(change)
                    states.append(disk.standing())
                self.assertEqual(disk.standing(), states[-1])
            other = {"add": "take", "take": "add", "rename": "rename"}
            self.assertEqual(backs(disk), [(other[change[0]],) + change[:0:-1] for change in made[::-1]])


class FormsAndRulesTest(DiskCase):
    """Point [124]."""

    def test_forms(self):
        disk = Disk([X, B], form=Form(chains=2))
        disk["a"] = BACK
        disk["c"] = Form(chains=7)
        for folder, form in (("a", BACK), ("b", Form(chains=2)), ("c", Form(chains=7)), ("zz", Form(chains=2))):
            self.check_equal(disk[folder], form)
        disk["a"] = disk["a"] * 3
        self.check_equal(disk["a"], Form(BACKWARDS, 3))
        self.assertEqual((disk.made, len(disk.log)), (0, 0))
        self.assertIs(disk.back(), None)

    def test_no_folders(self):
        disk = Disk([X])
        for value in no_names():
            self.check_refused(disk, InvalidName, {"value": value}, lambda: disk[value])
            for form in (BACK, None, 1):
                self.check_refused(disk, InvalidName, {"value": value}, disk.__setitem__, value, form)

    def test_no_forms(self):
        disk = Disk([X])
        disk["b"] = BACK
        for value in not_of(Form) + [None, Form, "abc"]:
            for folder in ("a", "b", "c"):
                self.check_refused(disk, InvalidForm, {"value": value}, disk.__setitem__, folder, value)

    def test_rules(self):
        disk = Disk([X], rules=NEAR)
        self.check_equal(disk.rules, NEAR)
        self.assertIs(disk.obey(Rules(barred=[(X, Y)])), None)
        self.check_equal(disk.rules, Rules(barred=[(X, Y)]))
        disk.obey(rules=NEAR)
        self.check_equal(disk.rules, NEAR)
        disk.obey(None)
        self.check_equal(disk.rules, Rules())
        disk.rules = NEAR
        self.check_equal(disk.rules, NEAR)
        disk.rules = None
        self.check_equal(disk.rules, Rules())
        self.assertIs(type(disk.rules), Rules)
        self.assertEqual(disk.made, 0)

    def test_no_rules(self):
        disk = Disk([X], rules=NEAR)
        for value in not_of(Rules) + [Rules]:
            if value is not None:
                self.check_refused(disk, InvalidRules, {"value": value}, disk.obey, value)
                self.check_refused(disk, InvalidRules, {"value": value}, setattr, disk, "rules", value)

    def test_places(self):
        disk = Disk([X, ("docs", "zz")])
        for value in every_value() + [list(X), ["a", "x"], ("a", "x", "x"), (X,), [X], "a/x", ("b", "a")]:
            self.assertIs(value in disk, False)
        self.assertIs(X in disk, True)
        self.assertIs(("docs", "zz") in disk, True)
        disk.take(X)
        self.assertIs(X in disk, False)

    def test_nothing_of_this_is_a_look(self):
        disk = Disk([X])
        disk.ask([X])
        X in disk, len(disk), disk.standing(), disk["a"], disk.rules, disk.made, disk.log, disk.story(), disk.copy()
        disk["a"], disk.rules = BACK, NEAR
        self.assertEqual(len(disk.log), 1)


class AskTest(DiskCase):
    """Point [125]."""

    def test_ask(self):
        disk = Disk([X, B])
        places = [Y, X, B, Z]
        look = disk.ask(places)
        self.assertEqual(places, [Y, X, B, Z])
        self.check_equal(look, Ask([(X, True), (Y, False), (Z, False), (B, True)]))
        self.check_equal(disk.log, Log([[look]]))
        disk.take(X)
        self.check_equal(disk.ask(places=[X]), Ask([(X, False)]))
        self.check_equal(disk.ask([]), Ask([]))
        self.check_equal(disk.log, Log([[look], [Ask([(X, False)])], [Ask([])]]))
        self.assertEqual(disk.made, 1)

    def test_no_lists_of_places(self):
        disk = Disk([X])
        disk.ask([X])
        values = not_of(list) + [None, [X, X], [X, Y, X], [X, list(Y)], [X, None], (X, Y), {X: True}, [[X]]]
        for value in values + [[value] for value in no_places()] + [[X, value] for value in no_places()]:
            self.check_refused(disk, InvalidList, {"value": value}, disk.ask, value)

    def test_a_new_log_and_story_each_time(self):
        disk = Disk([X])
        disk.ask([X])
        log, story = disk.log, disk.story()
        log += []
        log[0] = []
        story += (0, "take", X)
        self.check_equal(disk.log, Log([[Ask([(X, True)])]]))
        self.check_equal(disk.story(), Story([X]))

    def test_no_moment(self):
        disk = Disk([X])
        self.assertIs(disk.story(), None)
        disk.add(Y)
        self.assertIs(disk.story(), None)
        self.check_equal(disk.log, Log())

    def test_changes_before_between_and_behind(self):
        disk = Disk([X])
        disk.add(Y)
        disk.rename(X, B)
        disk.ask([X])
        disk.add(X)
        self.check_equal(disk.story(), Story([B, Y]))
        disk.take(Y)
        disk.ask([Y])
        disk.ask([])
        disk.rename(B, Z)
        self.check_equal(disk.story(), Story([B, Y], [(0, "add", X), (0, "take", Y)]))
        disk.ask([B])
        self.check_equal(disk.story(), Story([B, Y], [(0, "add", X), (0, "take", Y), (2, "rename", B, Z)]))
        disk.back()
        disk.back()
        self.assertEqual(len(disk.story()), 3)
        disk.ask([B])
        self.check_equal(disk.story(), Story([B, Y], [
            (0, "add", X), (0, "take", Y), (2, "rename", B, Z), (3, "rename", Z, B), (3, "add", Y),
        ]))
        self.assertEqual(disk.made, 7)
        self.assertIs(disk.story().fits(disk.log), True)

    def test_taken_back_before_the_first_look(self):
        disk = Disk([X])
        disk.add(Y)
        disk.ask([X, Y])
        disk.back()
        disk.ask([X, Y])
        self.check_equal(disk.story(), Story([X, Y], [(0, "take", Y)]))
        self.assertEqual(disk.made, 2)


class CopyTest(DiskCase):
    """Copies, by point [128]."""

    def busy_disk(self):
        disk = Disk([X, B], form=Form(chains=2), rules=Rules(barred=[(Y, B)]))
        disk["a"] = BACK
        disk.rename(X, Y)
        disk.ask([X])
        disk.add(Z)
        disk.reader("a").read()
        disk.take(B)
        return disk

    def change(self, disk):
        disk.make([("add", X), ("rename", Z, B)])
        disk.ask([Z, B])
        disk.back()
        disk["a"], disk["c"] = Form(chains=3), BACK
        disk.rules = NEAR
        disk.whole("a", most=2)

    def test_equal(self):
        disk = self.busy_disk()
        copy = disk.copy()
        self.assertIs(type(copy), Disk)
        self.assertIsNot(copy, disk)
        self.assertEqual(state_of(copy), state_of(disk))
        self.check_equal(copy["zz"], Form(chains=2))
        self.assertEqual(state_of(Disk().copy()), state_of(Disk()))

    def test_independent(self):
        for rounds in range(2):
            disk = self.busy_disk()
            copy = disk.copy()
            one, other = (disk, copy) if rounds == 0 else (copy, disk)
            before = state_of(one)
            self.change(other)
            self.assertEqual(state_of(one), before)
            self.change(one)
            self.assertEqual(state_of(one), state_of(other))

    def test_taken_back_in_both(self):
        disk = self.busy_disk()
        copy = disk.copy()
        wanted = [("add", B), ("take", Z), ("rename", Y, X), None]
        self.assertEqual([disk.back() for _ in range(4)], wanted)
        self.assertEqual([copy.back() for _ in range(4)], wanted)
        self.assertEqual((disk.made, copy.made), (6, 6))

    def test_a_copy_of_a_copy(self):
        disk = self.busy_disk()
        copy = disk.copy()
        third = copy.copy()
        self.change(copy)
        self.assertEqual(state_of(third), state_of(disk))

    def test_readers_stay(self):
        disk = Disk([X, Y, Z])
        reader = disk.reader("a")
        reader.read()
        copy = disk.copy()
        copy.take(Y)
        self.assertEqual(reader.read().names, ["y"])
        self.assertEqual((len(disk.log), len(copy.log)), (2, 1))
        disk.take(Z)
        self.assertEqual(reader.read().names, [])
        self.assertEqual((len(disk.log), len(copy.log)), (3, 1))
