"""Tests of the points [10] to [13], and of [2] as far as it concerns forms."""

import itertools
import random

from betweenlists.errors import InvalidForm, InvalidList, InvalidName, InvalidNumber
from betweenlists.forms import Form
from tests.cases import Case
from tests.values import (
    ALPHABET, BACKWARDS, all_names, every_value, names, no_names, no_whole_numbers, odd_strings, plain_odd_values,
    whole_numbers,
)

MIXED = "qwertyuiopasdfghjklzxcvbnm"


def expected_key(letters, chains, name):
    ranks = []
    for letter in name:
        ranks.append(letters.find(letter))
    return (sum(ranks) % chains, tuple(ranks))


class FormTest(Case):
    def check_no_form(self, letters, chains):
        for call in (lambda: Form(letters, chains), lambda: Form(chains=chains, letters=letters)):
            self.check_raises_with(InvalidForm, (letters, chains), call)

    def check_form(self, form, letters, chains):
        self.assertIs(type(form), Form)
        self.assertEqual((form.letters, form.chains), (letters, chains))
        self.assertIs(type(form.chains), int)


class MakingTest(FormTest):
    """Point [11]."""

    def test_defaults(self):
        self.check_form(Form(), ALPHABET, 1)
        self.check_form(Form(MIXED), MIXED, 1)
        self.check_form(Form(letters=MIXED), MIXED, 1)
        self.check_form(Form(chains=5), ALPHABET, 5)

    def test_by_position_and_by_name(self):
        self.check_form(Form(MIXED, 3), MIXED, 3)
        self.check_form(Form(MIXED, chains=3), MIXED, 3)
        self.check_form(Form(chains=3, letters=MIXED), MIXED, 3)

    def test_limits_of_chains(self):
        for chains in (1, 2, 999, 1000):
            self.check_form(Form(chains=chains), ALPHABET, chains)
        for chains in (0, -1, -2, -1000, 1001, 1002, 10 ** 39, -(10 ** 39)):
            self.check_no_form(ALPHABET, chains)

    def test_chains_of_other_kinds(self):
        for chains in no_whole_numbers():
            self.check_no_form(ALPHABET, chains)
            self.check_no_form(MIXED, chains)

    def test_wrong_letters(self):
        wrong = [
            "", "a", ALPHABET[:-1], ALPHABET[1:], ALPHABET + "a", ALPHABET * 2, "a" + ALPHABET[:-1],
            "aacdefghijklmnopqrstuvwxyz", ALPHABET.upper(), "A" + ALPHABET[1:], ALPHABET[:-1] + "Z",
            ALPHABET[:-1] + "{", "`" + ALPHABET[1:], ALPHABET + "\n", ALPHABET[:-1] + "\n", " " + ALPHABET,
            ALPHABET[:-1] + " ", ALPHABET[:13] + " " + ALPHABET[13:], list(ALPHABET), tuple(ALPHABET),
        ]
        for letters in wrong:
            self.check_no_form(letters, 1)
            self.check_no_form(letters, 1000)

    def test_letters_of_other_kinds(self):
        for letters in every_value():
            if letters != ALPHABET:
                self.check_no_form(letters, 1)

    def test_both_wrong(self):
        for letters, chains in itertools.product(["", None, ["a"], ALPHABET[:-1]], [0, True, None, [1], 1001]):
            self.check_no_form(letters, chains)

    def test_the_error_holds_the_defaults(self):
        for call, value in [(lambda: Form(chains=0), (ALPHABET, 0)), (lambda: Form("a"), ("a", 1))]:
            with self.assertRaises(InvalidForm) as held:
                call()
            self.assertEqual(held.exception.value, value)

    def test_properties_belong_to_the_class(self):
        self.assertIsInstance(Form.letters, property)
        self.assertIsInstance(Form.chains, property)

    def test_equal(self):
        self.assertTrue(Form() == Form(ALPHABET, 1))
        self.assertTrue(Form(MIXED, 3) == Form(MIXED, 3))
        self.assertFalse(Form(MIXED, 3) != Form(MIXED, 3))
        self.assertFalse(Form(MIXED, 3) == Form(MIXED, 4))
        self.assertFalse(Form(MIXED, 3) == Form(BACKWARDS, 3))
        self.assertTrue(Form(MIXED, 3) != Form(BACKWARDS, 3))
        self.assertIs(Form() == Form(), True)
        self.assertIs(Form() == Form(chains=2), False)

    def test_not_equal_to_other_objects(self):
        form = Form()
        for value in every_value() + [(ALPHABET, 1), [ALPHABET, 1]]:
            if not isinstance(value, Form):
                self.assertIs(form == value, False)
                self.assertIs(value == form, False)
                self.assertIs(form != value, True)


class KeyTest(FormTest):
    """Points [10] and [12]."""

    def test_key(self):
        self.assertEqual(Form()("abc"), (0, (0, 1, 2)))
        self.assertEqual(Form(chains=2)("bb"), (0, (1, 1)))
        self.assertEqual(Form(chains=2)("bc"), (1, (1, 2)))
        self.assertEqual(Form(BACKWARDS)("az"), (0, (25, 0)))
        self.assertEqual(Form(BACKWARDS, 7)("aa"), (1, (25, 25)))
        self.assertEqual(Form(chains=1000)("zzzzzzzz"), (200, (25,) * 8))
        self.assertEqual(Form(chains=200)("zzzzzzzz"), (0, (25,) * 8))
        self.assertEqual(Form(chains=199)("zzzzzzzz"), (1, (25,) * 8))

    def test_the_key_is_made_of_tuples(self):
        key = Form(chains=3)(name="abc")
        self.assertIs(type(key), tuple)
        self.assertIs(type(key[1]), tuple)

    def test_keys_of_many_names(self):
        for letters, chains in itertools.product([ALPHABET, BACKWARDS, MIXED], [1, 2, 3, 10, 1000]):
            form = Form(letters, chains)
            for name in all_names("aegz", 3) + names():
                self.assertEqual(form(name), expected_key(letters, chains, name))

    def test_the_length_of_a_name(self):
        for length in range(1, 9):
            self.assertEqual(Form()("z" * length), (0, (25,) * length))
        for length in (0, 9, 10, 100):
            name = "z" * length
            self.check_raises(InvalidName, name, Form(), name)

    def test_each_small_letter(self):
        self.assertEqual([Form()(letter) for letter in ALPHABET], [(0, (rank,)) for rank in range(26)])

    def test_each_other_character(self):
        for code in list(range(32, 127)) + [10]:
            letter = chr(code)
            if letter not in ALPHABET:
                for name in (letter, "a" + letter, letter + "a", "abc" + letter + "abcd"):
                    self.check_raises(InvalidName, name, Form(), name)

    def test_no_names(self):
        for value in no_names():
            self.check_raises(InvalidName, value, Form(), value)
            self.check_raises(InvalidName, value, Form(MIXED, 9), value)


class OrderedTest(FormTest):
    """Point [12]."""

    def test_empty(self):
        self.assertEqual(Form().ordered([]), [])

    def test_beginnings_come_first(self):
        self.assertEqual(Form().ordered(["abc", "b", "ab", "a", "abcd"]), ["a", "ab", "abc", "abcd", "b"])
        self.assertEqual(Form(BACKWARDS).ordered(["abc", "b", "ab", "a"]), ["b", "a", "ab", "abc"])

    def test_names_given_twice(self):
        self.assertEqual(Form().ordered(["b", "a", "b", "a", "b"]), ["a", "a", "b", "b", "b"])

    def test_chains_come_before_letters(self):
        self.assertEqual(Form(chains=2).ordered(["a", "b", "c", "ab"]), ["a", "c", "ab", "b"])
        self.assertEqual(Form(chains=10).ordered(["k", "b", "ab", "a", "l"]), ["a", "k", "ab", "b", "l"])

    def test_each_order_of_the_names(self):
        for form in (Form(), Form(chains=3), Form(BACKWARDS, 2)):
            wanted = sorted(["a", "ab", "b", "z"], key=lambda name: expected_key(form.letters, form.chains, name))
            for row in itertools.permutations(["a", "ab", "b", "z"]):
                self.assertEqual(form.ordered(list(row)), wanted)

    def test_many_names(self):
        chance = random.Random(5)
        for chains in (1, 2, 7, 1000):
            letters = "".join(chance.sample(ALPHABET, 26))
            form = Form(letters, chains)
            row = ["".join(chance.choices(ALPHABET, k=chance.randint(1, 8))) for _ in range(300)]
            self.assertEqual(form.ordered(row), sorted(row, key=lambda name: expected_key(letters, chains, name)))

    def test_a_new_list(self):
        given = ["b", "a", "c"]
        got = Form().ordered(names=given)
        self.assertEqual((given, got), (["b", "a", "c"], ["a", "b", "c"]))
        got.append("d")
        self.assertEqual(given, ["b", "a", "c"])
        in_order = ["a", "b"]
        self.assertIsNot(Form().ordered(in_order), in_order)
        empty = []
        self.assertIsNot(Form().ordered(empty), empty)

    def test_no_lists(self):
        for value in every_value():
            if not isinstance(value, list):
                self.check_raises(InvalidList, value, Form().ordered, value)
        for value in [("a", "b"), "ab", {"a": "b"}, ()]:
            self.check_raises(InvalidList, value, Form().ordered, value)

    def test_lists_with_other_items(self):
        for value in no_names():
            for row in ([value], ["a", value], [value, "a"], ["a", value, "b"]):
                self.check_raises(InvalidList, row, Form().ordered, row)

    def test_the_list_stays_when_an_error_is_raised(self):
        row = ["b", "a", ["c"]]
        self.check_raises(InvalidList, row, Form().ordered, row)
        self.assertEqual(row, ["b", "a", ["c"]])


class FactorTest(FormTest):
    """Point [13]."""

    def test_products(self):
        for chains, factor in [(1, 1), (1, 2), (3, 4), (1, 1000), (1000, 1), (500, 2), (8, 125)]:
            self.check_form(Form(MIXED, chains) * factor, MIXED, chains * factor)
            self.check_form(factor * Form(MIXED, chains), MIXED, chains * factor)

    def test_products_beyond_the_limit(self):
        for chains, factor in [(1, 1001), (1000, 2), (501, 2), (7, 143), (1, 10 ** 39), (1000, 10 ** 39)]:
            for call in (lambda form: form * factor, lambda form: factor * form):
                with self.assertRaises(InvalidForm) as held:
                    call(Form(MIXED, chains))
                self.assertEqual(held.exception.value, (MIXED, chains * factor))
                self.assertIs(type(held.exception.value), tuple)

    def test_quotients(self):
        cases = [(1, 1, 1), (1000, 1, 1000), (1000, 2, 500), (7, 2, 3), (8, 3, 2), (3, 3, 1), (2, 3, 1), (1, 2, 1)]
        for chains, factor, wanted in cases + [(1000, 1000, 1), (1000, 1001, 1), (999, 1000, 1), (1, 10 ** 39, 1)]:
            self.check_form(Form(MIXED, chains) // factor, MIXED, wanted)

    def test_numbers_below_one(self):
        for factor in (0, -1, -2, -1000, -(10 ** 39)):
            self.check_factor(factor)

    def test_factors_of_other_kinds(self):
        for factor in no_whole_numbers():
            self.check_factor(factor)

    def check_factor(self, factor):
        for form in (Form(MIXED, 3), Form(MIXED, 1000)):
            self.check_raises(InvalidNumber, factor, lambda: form * factor)
            self.check_raises(InvalidNumber, factor, lambda: form // factor)
            # A form on the left is covered above: on its right another form is the factor.
            if not isinstance(factor, Form):
                self.check_raises(InvalidNumber, factor, lambda: factor * form)

    def test_a_form_as_the_factor(self):
        left, right = Form(), Form(MIXED)
        self.check_raises(InvalidNumber, right, lambda: left * right)
        self.check_raises(InvalidNumber, right, lambda: left // right)

    def test_the_form_itself_stays(self):
        form = Form(MIXED, 6)
        results = [form * 1, form * 2, 2 * form, form // 1, form // 4]
        for call in (lambda: form * 0, lambda: form * 1000, lambda: True * form, lambda: form // None):
            with self.assertRaises(ValueError):
                call()
        self.check_form(form, MIXED, 6)
        self.assertEqual([result.chains for result in results], [6, 12, 12, 6, 1])

    def test_grown_and_shrunk_forms_order_names(self):
        form = Form() * 2
        self.assertEqual(form.ordered(["a", "b", "c", "ab"]), ["a", "c", "ab", "b"])
        self.assertEqual((form // 2).ordered(["c", "b", "ab", "a"]), ["a", "ab", "b", "c"])
        self.assertTrue(form // 2 == Form())


class ValuesTest(FormTest):
    """The values of the tests are what the tests above take them for."""

    def test_kinds(self):
        self.assertFalse([value for value in plain_odd_values() if type(value) in (int, str, list)])
        self.assertTrue(all(type(value) is int for value in whole_numbers()))
        self.assertTrue(all(type(value) is str for value in odd_strings()))


class ExampleTest(Case):
    def test_end_of_section_3(self):
        got = [
            Form(chains=2)("bb"),
            (Form() * 2).ordered(["a", "b", "c", "ab"]),
            Form("zyxwvutsrqponmlkjihgfedcba").ordered(["a", "b", "ab"]),
        ]
        self.assertEqual(got, [(0, (1, 1)), ["a", "c", "ab", "b"], ["b", "a", "ab"]])
