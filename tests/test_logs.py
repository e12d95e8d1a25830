"""Tests of the points [30] to [33], and of [2] as far as it concerns logs."""

import itertools
import random

from betweenlists.errors import InvalidList, InvalidLog, InvalidLook, InvalidNumber, InvalidPlace
from betweenlists.forms import Form
from betweenlists.logs import Log
from betweenlists.looks import Ask, Look, Piece
from tests.cases import Case
from tests.values import every_value, indexes_outside, no_lists, no_places, not_of

X, Y, Z = ("a", "x"), ("a", "y"), ("a", "z")
FAR = ("b", "x")
STANDS = Ask([(X, True)])
GONE = Ask([(X, False)])
BOTH = Ask([(X, True), (Y, False)])
PIECE = Piece("a", Form(), None, ["x", "y"], False)
WHOLE = Piece("b", Form(), None, [], True)
LOOKS = [STANDS, GONE, BOTH, PIECE, WHOLE]


def is_list_of_looks(value):
    return type(value) is list and all(type(item) in (Ask, Piece) for item in value)


def is_list_of_moments(value):
    return value is None or type(value) is list and all(is_list_of_looks(item) for item in value)


def wrong_looks():
    """Values that are no lists of looks."""
    more = [
        (), (STANDS,), STANDS, [STANDS, None], [None, STANDS], [STANDS, [STANDS]], [[STANDS]], [[]], [STANDS, True],
        [(STANDS,)], [Look], {0: STANDS}, [Log()], [STANDS, Form(), STANDS], [STANDS, "a"], [0], [X], [{}],
    ]
    return more + [value for value in every_value() if not is_list_of_looks(value)]


def wrong_moments():
    """Values that are neither lists of lists of looks nor None."""
    more = [
        (), ([],), ([STANDS],), [STANDS], [(STANDS,)], [()], [[STANDS], STANDS], [[STANDS], None], [None], [[None]],
        [[STANDS, None]], [[STANDS], [True]], [[STANDS], [1]], [[], True], [[], ()], [[], [()]], [[[]]], [[[STANDS]]],
        {0: [STANDS]}, Log(), [Log()], [Log([[STANDS]])], True, False, 0, 1, "", STANDS,
    ]
    return more + [value for value in every_value() if not is_list_of_moments(value)]


def rows(log):
    """The looks of a log, moment by moment."""
    return [log[k] for k in range(len(log))]


def three():
    return Log([[STANDS], [], [PIECE, GONE]])


class LogsTest(Case):
    def check_log(self, log, moments):
        self.assertIs(type(log), Log)
        self.assertIs(type(len(log)), int)
        self.assertEqual(len(log), len(moments))
        got = rows(log)
        for looks, wanted in zip(got, moments):
            self.assertIs(type(looks), list)
            self.assertEqual(len(looks), len(wanted))
            for look, other in zip(looks, wanted):
                self.assertIs(look, other)
        self.check_equal(log, Log(moments))

    def check_three(self, log):
        self.check_log(log, [[STANDS], [], [PIECE, GONE]])

    def check_fails(self, error, value, call, log):
        """The call raises, and the log is as before."""
        before = rows(log)
        self.check_raises(error, value, call)
        self.check_log(log, before)


class MakingTest(LogsTest):
    """Point [30]."""

    def test_without_moments(self):
        for log in (Log(), Log(None), Log([]), Log(moments=None), Log(moments=[])):
            self.check_log(log, [])

    def test_with_moments(self):
        for moments in (
            [[]], [[], []], [[STANDS]], [[STANDS, GONE]], [[STANDS], [GONE]], [[], [PIECE], []],
            [[STANDS, STANDS, STANDS]], [[WHOLE, PIECE], [BOTH, GONE, STANDS]],
        ):
            self.check_log(Log(moments), moments)
            self.check_log(Log(moments=moments), moments)

    def test_wrong_moments(self):
        for value in wrong_moments():
            self.check_raises(InvalidLog, value, Log, value)
            self.check_raises(InvalidLog, value, Log, moments=value)

    def test_one_wrong_thing_anywhere(self):
        for value in not_of(Look):
            for moments in ([[value]], [[value, STANDS], []], [[], [STANDS, value]], [[STANDS], [GONE, value, STANDS]]):
                self.check_raises(InvalidLog, moments, Log, moments)
        for value in wrong_looks():
            for moments in ([value], [[], value], [value, [STANDS]], [[STANDS], value, []]):
                self.check_raises(InvalidLog, moments, Log, moments)

    def test_the_given_lists_may_change(self):
        inner = [PIECE]
        moments = [inner, [], inner]
        log = Log(moments)
        inner.append(GONE)
        moments[1].append(STANDS)
        moments.append([WHOLE])
        self.check_log(log, [[PIECE], [], [PIECE]])
        moments.clear()
        inner.clear()
        self.check_log(log, [[PIECE], [], [PIECE]])

    def test_the_given_lists_stay(self):
        moments = [[PIECE], [], [GONE, STANDS]]
        log = Log(moments)
        log[0] = []
        log += [WHOLE]
        log[2] = [WHOLE]
        self.assertEqual(moments, [[PIECE], [], [GONE, STANDS]])

    def test_a_list_given_twice_makes_two_moments(self):
        looks = [PIECE]
        log = Log([looks, looks])
        log[0] = [GONE]
        self.check_log(log, [[GONE], [PIECE]])


class ListTest(LogsTest):
    """Point [31]: length, items and appending."""

    def test_items(self):
        log = three()
        self.assertEqual(len(log), 3)
        self.assertEqual(log[0], [STANDS])
        self.assertEqual(log[1], [])
        self.assertEqual(log[2], [PIECE, GONE])

    def test_returned_items_may_change(self):
        log = three()
        log[0].append(GONE)
        log[1].append(GONE)
        log[2].reverse()
        self.check_three(log)
        self.assertIsNot(log[2], log[2])

    def test_wrong_indexes(self):
        for log in (Log(), Log([[]]), three()):
            for k in indexes_outside(len(log)):
                self.check_fails(InvalidNumber, k, lambda: log[k], log)

    def check_set_fails(self, error, value, log, k, looks):
        def call():
            log[k] = looks
        self.check_fails(error, value, call, log)

    def test_set(self):
        for k, looks in itertools.product(range(3), ([], [WHOLE], [WHOLE, PIECE, WHOLE])):
            log = three()
            same = log
            wanted = rows(log)
            log[k] = looks
            wanted[k] = looks
            self.assertIs(log, same)
            self.check_log(log, wanted)

    def test_set_by_wrong_indexes(self):
        log = three()
        for k in indexes_outside(3):
            self.check_set_fails(InvalidNumber, k, log, k, [STANDS])
        for k in indexes_outside(0):
            self.check_set_fails(InvalidNumber, k, Log(), k, [])

    def test_set_to_wrong_looks(self):
        for looks in wrong_looks():
            for k in range(3):
                self.check_set_fails(InvalidLog, looks, three(), k, looks)

    def test_set_with_both_wrong(self):
        for k, looks in itertools.product([3, -1, 10 ** 39, True, None, "0", [0]], [None, (), [None], "a", STANDS]):
            self.check_set_fails(InvalidNumber, k, three(), k, looks)

    def test_looks_that_were_set_may_change(self):
        log = three()
        looks = [WHOLE]
        log[0] = looks
        log[1] = looks
        looks.append(GONE)
        self.check_log(log, [[WHOLE], [WHOLE], [PIECE, GONE]])
        log[0] = [BOTH]
        self.assertEqual(looks, [WHOLE, GONE])
        self.check_log(log, [[BOTH], [WHOLE], [PIECE, GONE]])

    def test_append(self):
        log = Log()
        same = log
        log += [STANDS]
        self.check_log(log, [[STANDS]])
        log += []
        log += [PIECE, GONE]
        self.assertIs(log, same)
        self.check_log(log, [[STANDS], [], [PIECE, GONE]])

    def test_append_wrong_looks(self):
        def call():
            nonlocal log
            log += looks
        for looks in wrong_looks():
            log = three()
            self.check_fails(InvalidLog, looks, call, log)

    def test_looks_that_were_appended_may_change(self):
        log, looks = Log(), [WHOLE]
        log += looks
        looks.append(GONE)
        log += looks
        looks.clear()
        self.check_log(log, [[WHOLE], [WHOLE, GONE]])
        log[0] = [BOTH]
        self.assertEqual(looks, [])

    def test_append_to_a_log_under_another_name(self):
        log = three()
        other = log
        log += [WHOLE]
        self.check_log(other, [[STANDS], [], [PIECE, GONE], [WHOLE]])


class SumTest(LogsTest):
    """Point [31]: sums, equality and copies."""

    def test_sum(self):
        for one, other in itertools.product([[], [[]], [[STANDS], []], [[PIECE, GONE], [WHOLE]]], repeat=2):
            self.check_log(Log(one) + Log(other), one + other)

    def test_sum_is_new(self):
        one, other = Log([[STANDS], []]), Log([[PIECE]])
        both = one + other
        both[0] = [WHOLE]
        both += [WHOLE]
        both[2] = []
        self.check_log(one, [[STANDS], []])
        self.check_log(other, [[PIECE]])
        one[1] = [GONE]
        other[0] = [GONE]
        one += [GONE]
        other += [GONE]
        self.check_log(both, [[WHOLE], [], [], [WHOLE]])

    def test_sum_with_none(self):
        for one, other in ((three(), Log()), (Log(), three())):
            both = one + other
            self.check_three(both)
            both[0] = []
            self.check_log(one + other, [[STANDS], [], [PIECE, GONE]])

    def test_sum_with_itself(self):
        log = Log([[STANDS], [PIECE]])
        self.check_log(log + log, [[STANDS], [PIECE], [STANDS], [PIECE]])
        self.check_log(log, [[STANDS], [PIECE]])

    def test_sum_with_other_objects(self):
        log = three()
        for value in not_of(Log) + [[[STANDS]], [STANDS], [[]]]:
            self.check_fails(InvalidLog, value, lambda: log + value, log)

    def test_equal(self):
        piece = Piece("a", Form(), None, ["x", "y"], False)
        self.check_equal(Log([[PIECE], []]), Log([[piece], []]))
        self.check_equal(Log([[Ask([(X, True), (Y, False)])]]), Log([[Ask([(Y, False), (X, True)])]]))
        self.check_equal(Log(), Log([]))

    def test_unequal(self):
        logs = [
            Log(), Log([[]]), Log([[], []]), Log([[STANDS]]), Log([[GONE]]), Log([[STANDS], []]), Log([[], [STANDS]]),
            Log([[STANDS, GONE]]), Log([[GONE, STANDS]]), Log([[STANDS], [GONE]]), Log([[GONE], [STANDS]]),
            Log([[STANDS, STANDS]]), Log([[STANDS], [STANDS]]), Log([[PIECE]]), Log([[PIECE], [WHOLE]]), Log([[WHOLE]]),
        ]
        for one, other in itertools.combinations(logs, 2):
            self.check_unequal(one, other)

    def test_equality_behind_each_edit(self):
        one, other = three(), three()
        self.check_equal(one, other)
        one[1] = [WHOLE]
        self.check_unequal(one, other)
        other[1] = [WHOLE]
        self.check_equal(one, other)
        one += []
        self.check_unequal(one, other)
        other += [GONE]
        self.check_unequal(one, other)
        other[3] = []
        self.check_equal(one, other)
        one = one + Log([[STANDS]])
        self.check_unequal(one, other)
        other += [STANDS]
        self.check_equal(one, other)

    def test_not_equal_to_other_objects(self):
        for log in (Log(), Log([[]]), three()):
            for value in not_of(Log) + [rows(log), tuple(rows(log)), None, []]:
                self.check_unequal(log, value)

    def test_copy(self):
        log = three()
        twin = log.copy()
        self.assertIsNot(twin, log)
        self.check_three(twin)
        twin[0] = [WHOLE]
        twin += [WHOLE]
        self.check_three(log)
        log[2] = []
        log += [GONE]
        log += [GONE]
        self.check_log(twin, [[WHOLE], [], [PIECE, GONE], [WHOLE]])
        self.check_log(Log().copy(), [])


class SaysTest(LogsTest):
    """Point [32]."""

    def test_says(self):
        log = Log([[STANDS, BOTH], [GONE, WHOLE], [], [PIECE]])
        for k, place, wanted in [
            (0, X, True), (0, Y, False), (0, Z, None), (0, FAR, None), (1, X, False), (1, Y, None), (1, FAR, False),
            (2, X, None), (2, FAR, None), (3, X, True), (3, Y, True), (3, Z, None), (3, ("a", "a"), False),
        ]:
            self.assertIs(log.says(k, place), wanted)
            self.assertIs(log.says(place=place, k=k), wanted)

    def test_says_where_looks_disagree(self):
        for looks in itertools.permutations([STANDS, GONE, WHOLE]):
            self.assertIs(Log([list(looks)]).says(0, X), True)

    def test_says_where_some_say_nothing(self):
        for looks in itertools.permutations([GONE, WHOLE, Ask([])]):
            self.assertIs(Log([list(looks)]).says(0, X), False)
            self.assertIs(Log([list(looks)]).says(0, Y), None)

    def test_says_raises(self):
        log = three()
        for k in indexes_outside(3):
            self.check_fails(InvalidNumber, k, lambda: log.says(k, X), log)
            self.check_fails(InvalidNumber, k, lambda: log.says(k, ["a", "x"]), log)
        for place in no_places():
            for k in range(3):
                self.check_fails(InvalidPlace, place, lambda: log.says(k, place), log)
            self.check_raises(InvalidNumber, 0, Log().says, 0, place)

    def test_no_clash(self):
        for moments in (
            [], [[]], [[STANDS], [GONE]], [[STANDS, BOTH, Piece("a", Form(), None, ["x"], True)], [GONE, WHOLE]],
            [[GONE, GONE, Ask([(Y, True)])]], [[PIECE, Piece("a", Form(), "y", ["z"], True)]],
        ):
            self.assertIs(Log(moments).clash(), None)

    def test_clash(self):
        for moments, wanted in [
            ([[STANDS, GONE]], (0, X)),
            ([[GONE, STANDS]], (0, X)),
            ([[STANDS], [GONE, WHOLE, STANDS]], (1, X)),
            ([[GONE], [STANDS], [BOTH, PIECE]], (2, Y)),
            ([[PIECE, BOTH]], (0, Y)),
            ([[PIECE, GONE, Ask([(Y, False)])]], (0, X)),
            ([[Ask([(FAR, True)]), WHOLE, PIECE, BOTH]], (0, Y)),
            ([[Ask([(FAR, True)]), WHOLE], [STANDS, GONE]], (0, FAR)),
            ([[], [STANDS, GONE], [STANDS, GONE]], (1, X)),
            ([[Ask([(("a", "w"), True)]), PIECE]], (0, ("a", "w"))),
            ([[Ask([(Y, True), (Z, True), (FAR, True)]), Ask([(FAR, False), (Z, False)])]], (0, Z)),
        ]:
            log = Log(moments)
            clash = log.clash()
            self.assertEqual(clash, wanted)
            self.assertIs(type(clash), tuple)
            self.assertIs(type(clash[0]), int)
            self.check_log(log, moments)

    def test_clash_behind_edits(self):
        log = Log([[STANDS], [GONE]])
        log[1] = [GONE, STANDS]
        self.assertEqual(log.clash(), (1, X))
        log[0] = [GONE, STANDS]
        self.assertEqual(log.clash(), (0, X))
        log[0] = []
        log[1] = []
        self.assertIs(log.clash(), None)
        log += [PIECE, BOTH]
        self.assertEqual(log.clash(), (2, Y))

    def test_places(self):
        for moments, wanted in [
            ([], []), ([[]], []), ([[GONE], [WHOLE]], []), ([[STANDS], [], [STANDS, BOTH]], [X]),
            ([[Ask([(FAR, True)])], [PIECE], [STANDS]], [X, Y, FAR]), ([[GONE, STANDS]], [X]),
            ([[Ask([(Y, True), (Z, False)])], [Ask([(("a", "yy"), True), (("aa", "a"), True)])]],
             [Y, ("a", "yy"), ("aa", "a")]),
        ]:
            log = Log(moments)
            self.assertEqual(log.places(), wanted)
            self.assertIs(type(log.places()), list)
            log.places().append(Z)
            self.assertEqual(log.places(), wanted)

    def test_places_in_the_order_of_python(self):
        piece = Piece("b", Form("zyxwvutsrqponmlkjihgfedcba"), None, ["z", "b", "a"], False)
        log = Log([[piece], [Ask([(("a", "z"), True)])]])
        self.assertEqual(log.places(), [("a", "z"), ("b", "a"), ("b", "b"), ("b", "z")])


class NewLogsTest(LogsTest):
    """Point [33]."""

    def check_new(self, call, wanted):
        """The call on three moments returns a new log; each of the two may then be edited."""
        log = three()
        made = call(log)
        self.check_log(made, wanted)
        self.check_three(log)
        for k in range(len(log)):
            log[k] = [WHOLE, WHOLE]
        log += [WHOLE]
        self.check_log(made, wanted)
        log = three()
        made = call(log)
        for k in range(len(made)):
            made[k] = [WHOLE, WHOLE]
        made += [WHOLE]
        self.check_three(log)

    def test_also(self):
        self.check_new(lambda log: log.also(0, GONE), [[STANDS, GONE], [], [PIECE, GONE]])
        self.check_new(lambda log: log.also(1, PIECE), [[STANDS], [PIECE], [PIECE, GONE]])
        self.check_new(lambda log: log.also(look=STANDS, k=2), [[STANDS], [], [PIECE, GONE, STANDS]])
        self.check_new(lambda log: log.also(0, STANDS), [[STANDS, STANDS], [], [PIECE, GONE]])

    def test_also_raises(self):
        log = three()
        for k in indexes_outside(3):
            self.check_fails(InvalidNumber, k, lambda: log.also(k, STANDS), log)
            self.check_fails(InvalidNumber, k, lambda: log.also(k, None), log)
        for look in not_of(Look) + [[STANDS], (STANDS,), Look]:
            self.check_fails(InvalidLook, look, lambda: log.also(0, look), log)
            self.check_fails(InvalidLook, look, lambda: log.also(2, look), log)
            self.check_raises(InvalidNumber, 0, Log().also, 0, look)

    def test_inserted(self):
        for k in range(4):
            for looks in ([], [WHOLE], [WHOLE, BOTH]):
                wanted = rows(three())
                wanted.insert(k, looks)
                self.check_new(lambda log: log.inserted(k, looks), wanted)
                self.check_new(lambda log: log.inserted(looks=looks, k=k), wanted)
        self.check_log(Log().inserted(0, [STANDS]), [[STANDS]])

    def test_inserted_looks_may_change(self):
        looks = [WHOLE]
        log = three().inserted(1, looks)
        looks.append(GONE)
        self.check_log(log, [[STANDS], [WHOLE], [], [PIECE, GONE]])

    def test_inserted_raises(self):
        for log in (Log(), three()):
            for k in indexes_outside(len(log) + 1):
                self.check_fails(InvalidNumber, k, lambda: log.inserted(k, [STANDS]), log)
                self.check_fails(InvalidNumber, k, lambda: log.inserted(k, None), log)
            for looks in wrong_looks():
                self.check_fails(InvalidLog, looks, lambda: log.inserted(0, looks), log)
                self.check_fails(InvalidLog, looks, lambda: log.inserted(len(log), looks), log)

    def test_joined(self):
        self.check_new(lambda log: log.joined(0), [[STANDS], [PIECE, GONE]])
        self.check_new(lambda log: log.joined(gap=1), [[STANDS], [PIECE, GONE]])
        log = Log([[STANDS, BOTH], [GONE], [], [WHOLE, PIECE]])
        self.check_log(log.joined(0), [[STANDS, BOTH, GONE], [], [WHOLE, PIECE]])
        self.check_log(log.joined(1), [[STANDS, BOTH], [GONE], [WHOLE, PIECE]])
        self.check_log(log.joined(2), [[STANDS, BOTH], [GONE], [WHOLE, PIECE]])
        self.check_log(log.joined(2).joined(1), [[STANDS, BOTH], [GONE, WHOLE, PIECE]])
        self.check_log(Log([[GONE], [STANDS]]).joined(0), [[GONE, STANDS]])

    def test_joined_raises(self):
        for log in (Log(), Log([[STANDS]]), Log([[STANDS], []]), three()):
            for gap in indexes_outside(max(0, len(log) - 1)):
                self.check_fails(InvalidNumber, gap, lambda: log.joined(gap), log)

    def test_part(self):
        for many in range(4):
            for moments in itertools.combinations(range(3), many):
                wanted = [rows(three())[k] for k in moments]
                self.check_new(lambda log: log.part(list(moments)), wanted)
                self.check_new(lambda log: log.part(moments=list(moments)), wanted)
        self.check_log(Log().part([]), [])

    def test_part_raises(self):
        log = three()
        wrong = [
            [1, 0], [0, 2, 1], [0, 0], [1, 1], [0, 1, 1], [0, 1, 2, 2], [3], [0, 3], [0, 1, 2, 3], [-1], [-1, 0],
            [0, -1], [True], [False], [0, True], [False, 1], [0, True, 2], (), (0,), (0, 1), [(0, 1)], [[0]], [None],
            ["0"], "", "0", {}, {0: 1}, [10 ** 39], [-(10 ** 39)], [0, "a"], ["a", 0], [Form()], Log(), 0, None, True,
        ]
        more = [row for row in every_value() if isinstance(row, list) and row not in ([], [1])]
        for moments in wrong + no_lists() + more:
            self.check_fails(InvalidList, moments, lambda: log.part(moments), log)
        self.check_raises(InvalidList, wrong[0], Log().part, wrong[0])
        for moments in ([0], [0, 1], [None]):
            self.check_raises(InvalidList, moments, Log().part, moments)

    def test_part_leaves_its_list(self):
        moments = [0, 2]
        log = three().part(moments)
        moments.append(3)
        self.check_log(log, [[STANDS], [PIECE, GONE]])

    def test_turned(self):
        self.check_new(lambda log: log.turned(), [[PIECE, GONE], [], [STANDS]])
        self.check_new(lambda log: log.turned().turned(), [[STANDS], [], [PIECE, GONE]])
        self.check_log(Log().turned(), [])
        self.check_log(Log([[STANDS], [GONE]]).turned(), [[GONE], [STANDS]])


class ManyEditsTest(LogsTest):
    def edit(self, chance, log, moments):
        """Edits a log and the list of its moments in the same way, by chance."""
        looks = chance.choices(LOOKS, k=chance.randint(0, 3))
        k = chance.randrange(len(moments)) if moments else 0
        step = chance.randrange(8) if len(moments) > 1 else 0
        if step == 0:
            log += looks
            return log, moments + [looks]
        if step == 1:
            log[k] = looks
            return log, moments[:k] + [looks] + moments[k + 1:]
        if step == 2:
            return log.inserted(k, looks), moments[:k] + [looks] + moments[k:]
        if step == 3:
            return log.also(k, WHOLE), moments[:k] + [moments[k] + [WHOLE]] + moments[k + 1:]
        if step == 4:
            k = chance.randrange(len(moments) - 1)
            return log.joined(k), moments[:k] + [moments[k] + moments[k + 1]] + moments[k + 2:]
        if step == 5:
            part = sorted(chance.sample(range(len(moments)), chance.randint(1, len(moments))))
            return log.part(part), [moments[k] for k in part]
        if step == 6:
            return log.turned(), moments[::-1]
        return log + log.part([k]), moments + [moments[k]]

    def test_as_lists_behave(self):
        for seed in range(30):
            chance = random.Random(seed)
            log, moments = Log(), []
            for _ in range(30):
                before, held = log.copy(), [list(looks) for looks in moments]
                log, moments = self.edit(chance, log, moments)
                self.check_log(log, moments)
                self.check_log(before, held)
                self.check_answers(log, moments)

    def check_answers(self, log, moments):
        clashes = []
        for k, looks in enumerate(moments):
            for place in (X, Y, Z, FAR):
                said = [look.says(place) for look in looks]
                wanted = True if True in said else False if False in said else None
                self.assertIs(log.says(k, place), wanted)
                if True in said and False in said:
                    clashes.append((k, place))
        self.assertEqual(log.clash(), min(clashes, default=None))
        stand = {place for looks in moments for look in looks for place in look.standing()}
        self.assertEqual(log.places(), sorted(stand))
