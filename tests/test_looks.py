"""Tests of the points [20] to [23], and of [2] as far as it concerns looks."""

import itertools
import random

from betweenlists.errors import InvalidLook, InvalidPlace
from betweenlists.forms import Form
from betweenlists.looks import Ask, Look, Piece
from tests.cases import Case
from tests.values import (
    ALPHABET, BACKWARDS, all_names, every_value, lists, no_names, no_places, objects, plain_odd_values, places,
)

FIELDS = ("folder", "form", "mark", "names", "ended")


def expected_key(form, name):
    ranks = tuple(form.letters.find(letter) for letter in name)
    return (sum(ranks) % form.chains, ranks)


def expected_says(arguments, place):
    """What a piece says, by the words of [21]."""
    folder, form, mark, names, ended = arguments
    if place[0] != folder:
        return None
    key = expected_key(form, place[1])
    if mark is not None and not key > expected_key(form, mark):
        return None
    if not ended and key > expected_key(form, names[-1]):
        return None
    return place[1] in names


class LooksTest(Case):
    def check_no_piece(self, *arguments):
        for call in (lambda: Piece(*arguments), lambda: Piece(**dict(zip(FIELDS, arguments)))):
            self.check_raises_with(InvalidLook, arguments, call)

    def check_no_ask(self, answers):
        for call in (lambda: Ask(answers), lambda: Ask(answers=answers)):
            self.check_raises(InvalidLook, answers, call)

    def check_says(self, look, place, wanted):
        self.assertIs(look.says(place), wanted)
        self.assertIs(look.says(place=place), wanted)
        self.assertIs(place in look, wanted is not None)
        self.assertIs(place not in look, wanted is None)

    def check_other_values(self, look):
        """Values that are no places: errors of says, and never in the look."""
        for value in no_places():
            self.check_raises(InvalidPlace, value, look.says, value)
            self.assertIs(value in look, False)


class ClassesTest(LooksTest):
    """Point [20]."""

    def test_derived_from_look(self):
        self.assertEqual((Piece.__bases__, Ask.__bases__), ((Look,), (Look,)))
        self.assertIsInstance(Piece("a", Form(), None, [], True), Look)
        self.assertIsInstance(Ask([]), Look)
        self.assertNotIsInstance(Ask([]), Piece)
        self.assertNotIsInstance(Piece("a", Form(), None, [], True), Ask)

    def test_no_other_looks(self):
        with self.assertRaises(TypeError):
            Look()


class MakingPieceTest(LooksTest):
    """Point [21]: what fits and what does not."""

    def check_piece(self, piece, *arguments):
        got = tuple(getattr(piece, field) for field in FIELDS)
        self.assertEqual(got, arguments)
        self.assertIs(type(piece.ended), bool)

    def test_by_position_and_by_name(self):
        form = Form(BACKWARDS, 3)
        arguments = ("docs", form, None, ["a"], False)
        self.check_piece(Piece(*arguments), *arguments)
        self.check_piece(Piece(**dict(zip(FIELDS, arguments))), *arguments)
        self.check_piece(Piece("docs", form, ended=False, names=["a"], mark=None), *arguments)
        self.assertIs(Piece(*arguments).form, form)

    def test_fitting_pieces(self):
        for arguments in [
            ("a", Form(), None, [], True),
            ("a", Form(), "m", [], True),
            ("a", Form(), None, ["a"], True),
            ("a", Form(), None, ["a"], False),
            ("a", Form(), "a", ["aa"], False),
            ("a", Form(), "a", ["b", "c"], True),
            ("abcdefgh", Form(), "zzzzzzzy", ["zzzzzzzz"], False),
            ("a", Form(BACKWARDS), "z", ["y", "a", "aa"], False),
            ("a", Form(chains=2), "c", ["b"], False),
            ("a", Form(chains=2), None, ["a", "c", "ab", "b"], True),
            ("a", Form(), None, [letter for letter in ALPHABET[:20]], False),
        ]:
            self.check_piece(Piece(*arguments), *arguments)

    def test_wrong_folders(self):
        for folder in no_names():
            self.check_no_piece(folder, Form(), None, ["a"], True)
            self.check_no_piece(folder, Form(), "a", [], True)

    def test_wrong_forms(self):
        for form in every_value() + [(ALPHABET, 1), 1, ALPHABET]:
            if not isinstance(form, Form):
                self.check_no_piece("a", form, None, ["a"], True)
                self.check_no_piece("a", form, None, [], True)

    def test_wrong_marks(self):
        for mark in no_names():
            if mark is not None:
                self.check_no_piece("a", Form(), mark, ["z"], True)
                self.check_no_piece("a", Form(), mark, [], True)

    def test_names_that_are_no_list(self):
        for names in every_value():
            if not isinstance(names, list):
                self.check_no_piece("a", Form(), None, names, True)
                self.check_no_piece("a", Form(), None, names, False)

    def test_names_with_other_items(self):
        for value in no_names():
            for names in ([value], ["a", value], [value, "z"]):
                self.check_no_piece("a", Form(), None, names, True)

    def test_names_twice(self):
        for names in (["a", "a"], ["a", "b", "b"], ["a", "a", "b"], ["a", "b", "a"]):
            self.check_no_piece("a", Form(), None, names, True)
            self.check_no_piece("a", Form(), None, names, False)

    def test_names_out_of_order(self):
        for form, names in [
            (Form(), ["b", "a"]), (Form(), ["ab", "a"]), (Form(), ["a", "c", "b"]), (Form(), ["b", "a", "c"]),
            (Form(BACKWARDS), ["a", "b"]), (Form(chains=2), ["a", "b", "c"]), (Form(BACKWARDS), ["aa", "a"]),
        ]:
            self.check_no_piece("a", form, None, names, True)
            self.check_no_piece("a", form, None, names, False)

    def test_names_that_are_not_behind_the_mark(self):
        for form, mark, names in [
            (Form(), "b", ["b"]), (Form(), "b", ["a"]), (Form(), "b", ["a", "c"]), (Form(), "b", ["b", "c"]),
            (Form(), "ab", ["a"]), (Form(BACKWARDS), "b", ["c"]), (Form(chains=2), "b", ["c"]),
        ]:
            self.check_no_piece("a", form, mark, names, True)
            self.check_no_piece("a", form, mark, names, False)

    def test_ended_of_other_kinds(self):
        for ended in every_value():
            if not isinstance(ended, bool):
                self.check_no_piece("a", Form(), None, ["a"], ended)
                self.check_no_piece("a", Form(), None, [], ended)

    def test_without_names_and_not_ended(self):
        self.check_no_piece("a", Form(), None, [], False)
        self.check_no_piece("a", Form(), "b", [], False)

    def test_all_wrong(self):
        for value in ([None], {"a": [1]}, (1,), 1):
            self.check_no_piece(value, value, value, value, value)

    def test_an_error_changes_nothing(self):
        names = ["b", "a", ["c"]]
        self.check_no_piece("a", Form(), None, names, True)
        self.assertEqual(names, ["b", "a", ["c"]])


class PieceTest(LooksTest):
    """Points [21] and [23]: what a piece covers and says."""

    def test_from_the_beginning_not_ended(self):
        piece = Piece("f", Form(), None, ["b", "d"], False)
        for name, wanted in [
            ("a", False), ("azzzzzzz", False), ("b", True), ("ba", False), ("c", False), ("czzzzzzz", False),
            ("d", True), ("da", None), ("e", None), ("zzzzzzzz", None),
        ]:
            self.check_says(piece, ("f", name), wanted)

    def test_behind_a_mark_not_ended(self):
        piece = Piece("f", Form(), "b", ["d"], False)
        for name, wanted in [
            ("a", None), ("b", None), ("ba", False), ("c", False), ("d", True), ("da", None), ("z", None),
        ]:
            self.check_says(piece, ("f", name), wanted)

    def test_behind_a_mark_ended(self):
        piece = Piece("f", Form(), "b", ["d"], True)
        for name, wanted in [
            ("a", None), ("azzzzzzz", None), ("b", None), ("ba", False), ("d", True), ("da", False),
            ("zzzzzzzz", False),
        ]:
            self.check_says(piece, ("f", name), wanted)

    def test_from_the_beginning_ended(self):
        piece = Piece("f", Form(), None, ["d"], True)
        for name, wanted in [("a", False), ("d", True), ("da", False), ("zzzzzzzz", False)]:
            self.check_says(piece, ("f", name), wanted)

    def test_without_names(self):
        whole = Piece("f", Form(), None, [], True)
        behind = Piece("f", Form(), "m", [], True)
        for name, of_whole, of_behind in [
            ("a", False, None), ("m", False, None), ("ma", False, False), ("zzzzzzzz", False, False),
        ]:
            self.check_says(whole, ("f", name), of_whole)
            self.check_says(behind, ("f", name), of_behind)

    def test_other_folders(self):
        for piece in (Piece("f", Form(), None, ["b"], True), Piece("f", Form(), None, ["b"], False)):
            for folder in ("a", "ff", "g", "b"):
                self.check_says(piece, (folder, "b"), None)
                self.check_says(piece, (folder, "f"), None)

    def test_other_forms(self):
        backwards = Piece("f", Form(BACKWARDS), "y", ["x", "b"], False)
        for name, wanted in [
            ("z", None), ("y", None), ("ya", False), ("x", True), ("c", False), ("b", True), ("bz", None), ("a", None),
        ]:
            self.check_says(backwards, ("f", name), wanted)
        chained = Piece("f", Form(chains=2), "c", ["ab"], False)
        for name, wanted in [("a", None), ("c", None), ("e", False), ("cc", False), ("ab", True), ("b", None)]:
            self.check_says(chained, ("f", name), wanted)

    def test_against_the_words_of_the_document(self):
        chance = random.Random(11)
        for letters, chains in itertools.product([ALPHABET, BACKWARDS], [1, 2, 3, 7]):
            form = Form(letters, chains)
            row = sorted(all_names("abmz", 3), key=lambda name: expected_key(form, name))
            for _ in range(20):
                start = chance.randint(0, len(row))
                mark = None if start == 0 else row[start - 1]
                names = [name for name in row[start:] if chance.random() < 0.1][:20]
                ended = True if not names else chance.random() < 0.5
                piece = Piece("f", form, mark, names, ended)
                for name in row:
                    for folder in ("f", "g"):
                        wanted = expected_says(("f", form, mark, names, ended), (folder, name))
                        self.check_says(piece, (folder, name), wanted)

    def test_standing(self):
        self.assertEqual(Piece("f", Form(), None, [], True).standing(), [])
        self.assertEqual(Piece("f", Form(), "a", ["b", "d"], False).standing(), [("f", "b"), ("f", "d")])
        piece = Piece("f", Form(BACKWARDS), None, ["z", "b", "a", "aa"], False)
        self.assertEqual(piece.standing(), [("f", "a"), ("f", "aa"), ("f", "b"), ("f", "z")])
        chained = Piece("f", Form(chains=2), None, ["a", "c", "ab", "b"], True)
        self.assertEqual(chained.standing(), [("f", "a"), ("f", "ab"), ("f", "b"), ("f", "c")])

    def test_no_places(self):
        self.check_other_values(Piece("a", Form(), None, [], True))
        self.check_other_values(Piece("a", Form(), "a", ["b"], False))

    def test_the_given_list_may_change(self):
        names = ["b", "d"]
        piece = Piece("f", Form(), None, names, False)
        names.append("e")
        names[0] = "c"
        self.assertEqual(piece.names, ["b", "d"])
        self.check_says(piece, ("f", "b"), True)
        self.check_says(piece, ("f", "c"), False)
        self.check_says(piece, ("f", "e"), None)
        names.clear()
        self.assertEqual(piece.standing(), [("f", "b"), ("f", "d")])

    def test_returned_lists_may_change(self):
        piece = Piece("f", Form(), None, ["b", "d"], False)
        piece.names.append("e")
        piece.names.reverse()
        piece.standing().clear()
        self.assertEqual(piece.names, ["b", "d"])
        self.assertEqual(piece.standing(), [("f", "b"), ("f", "d")])
        self.assertIsNot(piece.names, piece.names)
        self.assertIsNot(piece.standing(), piece.standing())
        self.assertTrue(piece == Piece("f", Form(), None, ["b", "d"], False))
        self.check_says(piece, ("f", "e"), None)

    def test_a_call_that_raises_changes_nothing(self):
        piece = Piece("f", Form(), None, ["b"], False)
        with self.assertRaises(InvalidPlace):
            piece.says(["f", "b"])
        self.assertTrue(piece == Piece("f", Form(), None, ["b"], False))

    def test_equal(self):
        one = Piece("f", Form(), "a", ["b", "d"], False)
        self.assertIs(one == Piece("f", Form(ALPHABET, 1), "a", ["b", "d"], False), True)
        self.assertIs(one != Piece("f", Form(), "a", ["b", "d"], False), False)

    def test_pieces_that_differ_in_one_alone(self):
        one = ("f", Form(), "a", ["b", "d"], True)
        for index, value in [
            (0, "g"), (1, Form(chains=100)), (1, Form("abcdefghijklmnopqrstuvwxzy")), (2, None), (2, "aa"),
            (3, ["b"]), (3, ["b", "c"]), (3, ["b", "d", "e"]), (3, []), (4, False),
        ]:
            changed = list(one)
            changed[index] = value
            self.assertIs(Piece(*one) == Piece(*changed), False)
            self.assertIs(Piece(*changed) == Piece(*one), False)
            self.assertIs(Piece(*one) != Piece(*changed), True)

    def test_not_equal_to_other_objects(self):
        piece = Piece("a", Form(), None, ["b"], False)
        for value in every_value() + [("a", Form(), None, ["b"], False), Ask([(("a", "a"), False), (("a", "b"), True)])]:
            self.assertIs(piece == value, False)
            self.assertIs(value == piece, False)
            self.assertIs(piece != value, True)


class MakingAskTest(LooksTest):
    """Point [22]: what fits and what does not."""

    def test_in_any_order(self):
        answers = [(("a", "a"), True), (("a", "b"), False), (("b", "a"), False), (("b", "aa"), True)]
        for row in itertools.permutations(answers):
            ask = Ask(list(row))
            self.assertEqual(ask.answers, answers)
            self.assertTrue(all(type(stands) is bool for _, stands in ask.answers))

    def test_none(self):
        self.assertEqual(Ask([]).answers, [])
        self.assertEqual(Ask(answers=[]).standing(), [])

    def test_places_differ_by_folder_or_name(self):
        self.assertEqual(len(Ask([(("a", "b"), True), (("b", "a"), True), (("a", "a"), True)]).answers), 3)

    def test_a_place_twice(self):
        one, other = ("a", "b"), ("c", "d")
        for row in [
            [(one, True), (one, True)], [(one, True), (one, False)], [(one, False), (one, True)],
            [(one, True), (other, True), (one, False)], [(other, True), (one, False), (one, False)],
        ]:
            self.check_no_ask(row)

    def test_no_lists(self):
        for value in every_value() + [((("a", "b"), True),), {("a", "b"): True}, (("a", "b"), True)]:
            if not isinstance(value, list):
                self.check_no_ask(value)

    def test_items_of_other_kinds(self):
        right = (("a", "b"), True)
        for value in every_value() + [[("a", "b"), True], (("a", "b"),), (("a", "b"), True, None), ("ab", True)]:
            if value != right:
                self.check_no_ask([value])
                self.check_no_ask([value, (("c", "d"), False)])
                self.check_no_ask([(("c", "d"), False), value])

    def test_places_of_other_kinds(self):
        for value in no_places():
            self.check_no_ask([(value, True)])
            self.check_no_ask([(("c", "d"), True), (value, False)])

    def test_stands_of_other_kinds(self):
        for value in every_value():
            if not isinstance(value, bool):
                self.check_no_ask([(("a", "b"), value)])
                self.check_no_ask([(("c", "d"), True), (("a", "b"), value)])

    def test_an_error_changes_nothing(self):
        answers = [(("b", "b"), True), (("a", "b"), 1)]
        self.check_no_ask(answers)
        self.assertEqual(answers, [(("b", "b"), True), (("a", "b"), 1)])


class AskTest(LooksTest):
    """Points [22] and [23]: what an ask covers and says."""

    def test_says(self):
        ask = Ask([(("b", "x"), True), (("a", "y"), False), (("a", "x"), True)])
        for place, wanted in [
            (("a", "x"), True), (("a", "y"), False), (("b", "x"), True), (("b", "y"), None), (("x", "a"), None),
            (("a", "z"), None), (("c", "x"), None),
        ]:
            self.check_says(ask, place, wanted)
        for place in places():
            self.check_says(Ask([]), place, None)

    def test_standing(self):
        answers = [(("b", "x"), True), (("a", "yy"), True), (("a", "z"), False), (("a", "y"), True)]
        for row in itertools.permutations(answers):
            self.assertEqual(Ask(list(row)).standing(), [("a", "y"), ("a", "yy"), ("b", "x")])
        self.assertEqual(Ask([(("a", "b"), False)]).standing(), [])

    def test_no_places(self):
        self.check_other_values(Ask([]))
        self.check_other_values(Ask([(("a", "b"), True), (("a", "a"), False)]))

    def test_the_given_list_may_change(self):
        answers = [(("b", "x"), True), (("a", "y"), False)]
        ask = Ask(answers)
        answers[0] = (("b", "x"), False)
        answers.append((("c", "c"), True))
        self.assertEqual(ask.answers, [(("a", "y"), False), (("b", "x"), True)])
        self.check_says(ask, ("b", "x"), True)
        self.check_says(ask, ("c", "c"), None)
        self.assertEqual(ask.standing(), [("b", "x")])

    def test_the_given_list_stays(self):
        answers = [(("b", "x"), True), (("a", "y"), False)]
        Ask(answers)
        self.assertEqual(answers, [(("b", "x"), True), (("a", "y"), False)])

    def test_returned_lists_may_change(self):
        ask = Ask([(("b", "x"), True), (("a", "y"), False)])
        ask.answers.clear()
        ask.standing().append(("c", "c"))
        self.assertEqual(ask.answers, [(("a", "y"), False), (("b", "x"), True)])
        self.assertEqual(ask.standing(), [("b", "x")])
        self.assertIsNot(ask.answers, ask.answers)
        self.assertIsNot(ask.standing(), ask.standing())

    def test_equal_in_any_order(self):
        answers = [(("a", "x"), True), (("a", "y"), False), (("b", "x"), True)]
        for row in itertools.permutations(answers):
            self.assertIs(Ask(list(row)) == Ask(answers), True)
            self.assertIs(Ask(list(row)) != Ask(answers), False)
        self.assertIs(Ask([]) == Ask([]), True)

    def test_unequal(self):
        one = Ask([(("a", "x"), True), (("a", "y"), False)])
        for answers in [
            [], [(("a", "x"), True)], [(("a", "x"), True), (("a", "y"), True)], [(("a", "x"), False), (("a", "y"), True)],
            [(("a", "x"), True), (("a", "z"), False)], [(("a", "x"), True), (("b", "y"), False)],
            [(("a", "x"), True), (("a", "y"), False), (("a", "z"), False)],
        ]:
            self.assertIs(one == Ask(answers), False)
            self.assertIs(Ask(answers) == one, False)
            self.assertIs(one != Ask(answers), True)

    def test_not_equal_to_other_objects(self):
        answers = [(("a", "a"), True)]
        ask = Ask(answers)
        others = plain_odd_values() + lists() + [Piece("a", Form(), None, ["a"], False), answers]
        for value in others + [thing for thing in objects() if not isinstance(thing, Ask)]:
            self.assertIs(ask == value, False)
            self.assertIs(value == ask, False)
            self.assertIs(ask != value, True)
        self.assertIs(Ask([]) == Piece("a", Form(), None, [], True), False)
        self.assertIs(Ask([]) == [], False)


class LimitsTest(LooksTest):
    """Point [3]: at the limits all works."""

    def test_twenty_names_and_answers(self):
        names = [letter * 8 for letter in ALPHABET[:20]]
        piece = Piece("abcdefgh", Form(), None, names, False)
        self.assertEqual(piece.standing(), [("abcdefgh", name) for name in names])
        self.check_says(piece, ("abcdefgh", "tttttttt"), True)
        self.check_says(piece, ("abcdefgh", "u"), None)
        answers = [(("abcdefgh", name), name < "k") for name in names]
        ask = Ask(list(reversed(answers)))
        self.assertEqual(ask.answers, answers)
        self.assertEqual(ask.standing(), [("abcdefgh", name) for name in names[:10]])


class ExampleTest(LooksTest):
    def test_end_of_section_4(self):
        piece = Piece("docs", Form(), "b", ["d", "f"], False)
        got = [
            piece.says(("docs", "c")), piece.says(("docs", "f")), piece.says(("docs", "b")), ("docs", "fa") in piece,
        ]
        self.assertEqual(got, [False, True, None, False])
