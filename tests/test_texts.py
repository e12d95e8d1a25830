"""Tests of the points [130] and [131], and of [2] as far as it concerns texts."""

import random

from betweenlists.errors import InvalidLog, InvalidStory, InvalidText
from betweenlists.forms import Form
from betweenlists.logs import Log
from betweenlists.looks import Ask, Piece
from betweenlists.stories import Story
from betweenlists.texts import read_log, read_story, write_log, write_story
from tests.cases import Case
from tests.values import ALPHABET, BACKWARDS, every_value, not_of
from tests.worlds import chance_case, wrong_log

X, Y, B = ("a", "x"), ("a", "y"), ("b", "x")
LONG = ("abcdefgh", "zzzzzzzz")
GREAT = 10 ** 39


class TextCase(Case):
    def check_log(self, log, text):
        """The log is written so, and read again."""
        before = log.copy()
        self.assertEqual(write_log(log), text)
        self.assertIs(type(write_log(log=log)), str)
        self.check_equal(read_log(text), log)
        self.check_equal(read_log(text=text), log)
        self.check_equal(log, before)
        self.assertEqual(write_log(read_log(text)), text)

    def check_story(self, story, text):
        self.assertEqual(write_story(story), text)
        self.assertIs(type(write_story(story=story)), str)
        self.check_equal(read_story(text), story)
        self.check_equal(read_story(text=text), story)
        self.assertEqual(write_story(read_story(text)), text)

    def check_line(self, read, text, line):
        with self.assertRaises(InvalidText) as held:
            read(text)
        self.assertIs(type(held.exception), InvalidText)
        self.assertEqual(held.exception.line, line)
        self.assertIs(type(held.exception.line), int)


class WriteLogTest(TextCase):
    def test_no_moments(self):
        self.check_log(Log(), "")

    def test_moments_without_looks(self):
        self.check_log(Log([[]]), "nothing")
        self.check_log(Log([[], [], []]), "nothing\nnothing\nnothing")
        self.check_log(Log([[], [Ask([])], []]), "nothing\nask\nnothing")

    def test_asks(self):
        self.check_log(Log([[Ask([])]]), "ask")
        self.check_log(Log([[Ask([(X, True)])]]), "ask a/x=in")
        self.check_log(Log([[Ask([(X, False)])]]), "ask a/x=out")
        self.check_log(
            Log([[Ask([(B, True), (LONG, False), (Y, False), (X, True)])]]),
            "ask a/x=in a/y=out abcdefgh/zzzzzzzz=out b/x=in",
        )

    def test_pieces(self):
        for piece, text in [
            (Piece("a", Form(), None, [], True), f"list a 1 {ALPHABET} - ."),
            (Piece("a", Form(), "m", [], True), f"list a 1 {ALPHABET} m ."),
            (Piece("docs", Form(), None, ["x"], False), f"list docs 1 {ALPHABET} - x +"),
            (Piece("docs", Form(), None, ["x"], True), f"list docs 1 {ALPHABET} - x ."),
            (Piece("abcdefgh", Form(BACKWARDS), "zzzzzzzz", ["y", "c", "b", "ba"], False),
             f"list abcdefgh 1 {BACKWARDS} zzzzzzzz y c b ba +"),
            (Piece("a", Form(chains=1000), "a", ["ab", "b"], True), f"list a 1000 {ALPHABET} a ab b ."),
            (Piece("a", Form(BACKWARDS, 30), None, ["z"], False), f"list a 30 {BACKWARDS} - z +"),
        ]:
            self.check_log(Log([[piece]]), text)

    def test_words_of_lines_as_names(self):
        names = ["ask", "first", "in", "list", "nothing", "out"]
        self.check_log(
            Log([
                [Piece("list", Form(), "add", names, False)], [Ask([(("ask", "list"), True), (("in", "out"), False)])],
            ]),
            f"list list 1 {ALPHABET} add {' '.join(names)} +\nask ask/list=in in/out=out",
        )
        self.check_log(Log([[Piece("nothing", Form(), None, [], True)]]), f"list nothing 1 {ALPHABET} - .")

    def test_several_looks(self):
        piece, ask = Piece("a", Form(), None, ["x"], True), Ask([(X, True)])
        text = f"list a 1 {ALPHABET} - x ."
        self.check_log(Log([[ask, piece]]), "ask a/x=in & " + text)
        self.check_log(Log([[piece, ask, Ask([]), piece]]), text + " & ask a/x=in & ask & " + text)
        self.check_log(Log([[Ask([]), Ask([])], [], [ask]]), "ask & ask\nnothing\nask a/x=in")

    def test_logs_that_clash(self):
        self.check_log(Log([[Ask([(X, True)]), Ask([(X, False)])]]), "ask a/x=in & ask a/x=out")

    def test_by_chance(self):
        chance = random.Random()
        for seed in range(100):
            _, story, log = chance_case(seed, chance)
            self.check_log(log, write_log(log))
            self.check_story(story, write_story(story))
            wrong = wrong_log(chance, log)
            if wrong is not None:
                self.check_log(wrong, write_log(wrong))

    def test_example_of_section_13(self):
        looks = [
            Ask([(("a", "y"), True), (("a", "x"), False)]), Piece("docs", Form(chains=4), "b", ["f", "d"], False),
        ]
        self.check_log(
            Log([[looks[0]], [], [looks[1]]]),
            "ask a/x=out a/y=in\nnothing\nlist docs 4 abcdefghijklmnopqrstuvwxyz b f d +",
        )
        self.assertEqual(len(read_story("first a/x\n0 rename a/x b/y\n2 take b/y")), 2)

    def test_no_logs(self):
        for value in not_of(Log) + [[], [[]], Log]:
            self.check_raises(InvalidLog, value, write_log, value)


class WriteStoryTest(TextCase):
    def test_stories(self):
        self.check_story(Story([]), "first")
        self.check_story(Story([X]), "first a/x")
        self.check_story(Story([B, LONG, X]), "first a/x abcdefgh/zzzzzzzz b/x")
        self.check_story(Story([], [(0, "add", X)]), "first\n0 add a/x")
        self.check_story(
            Story([X], [(0, "rename", X, B), (0, "add", X), (3, "take", B), (12, "add", B)]),
            "first a/x\n0 rename a/x b/x\n0 add a/x\n3 take b/x\n12 add b/x",
        )
        self.check_story(Story([X], [(GREAT, "take", X)]), f"first a/x\n{GREAT} take a/x")
        self.check_story(Story([], [(7, "add", ("add", "take"))]), "first\n7 add add/take")
        self.check_story(Story([("first", "first")]), "first first/first")

    def test_no_stories(self):
        for value in not_of(Story) + [[], [X], Story]:
            self.check_raises(InvalidStory, value, write_story, value)


def wrong_moments():
    """Lines that cannot be the line of a moment."""
    folder, rest = "list a", f"{ALPHABET} - x ."
    lines = [
        "", " ", "  ", "Nothing", "nothing ", " nothing", "nothing nothing", "nothing & nothing", "nothing & ask",
        "ask & nothing", "ask &", "& ask", " & ask", "ask & ", "&", " & ", "ask  & ask", "ask &  ask", "ask&ask",
        "ask && ask", "ask & & ask", "ask, ask", "-", ".", "x", "a/x=in", "look a/x=in", "asks", "asking a/x=in", "Ask",
        "lists a", "list", "list ", "list a", "list a 1", "list a 1 " + ALPHABET, f"list a 1 {ALPHABET} -", "first",
        f"list a 1 {ALPHABET} .", f"list a 1 {ALPHABET} x", "first a/x", "0 add a/x", "~", "ask ~", "ask -", "ask .",
        "ask ", " ask", "ask  a/x=in", "ask a/x=in ", " ask a/x=in", "ask a/x=in  a/y=in", "ask a/x",
        "ask a/x=", "ask =in",
        "ask a/x=In", "ask a/x=in=in", "ask a/x=out=in", "ask a/x==in", "ask a/x =in", "ask a/x= in", "ask a /x=in",
        "ask a/ x=in", "ask a / x=in", "ask a/x=yes", "ask a/x=True", "ask a/x=1", "ask a/x=on", "ask a/x=inn",
        "ask a/X=in", "ask A/x=in", "ask /x=in", "ask a/=in", "ask a=in", "ask ax=in", "ask a//x=in", "ask a/x/y=in",
        "ask a/x/=in", "ask /a/x=in", "ask a/x1=in", "ask a/abcdefghi=in", "ask abcdefghi/x=in", "ask a.x=in",
        "ask a/x=in,a/y=in", "ask a/x=ina/y=in", "ask a/x=in a/x=in", "ask a/x=in a/x=out", "ask a/y=in a/x=in",
        "ask b/a=in a/b=in", "ask a/x=in a/y=in a/x=in", "ask a/x=in nothing", "ask a/x=in ask a/y=in", "ask a/x:in",
        f"list  a 1 {rest}", f" list a 1 {rest}", f"list a  1 {rest}", f"list a 1  {rest}", f"list a 1 {rest} ",
        f"list a 1 {ALPHABET}  - x .", f"list a 1 {ALPHABET} -  x .", f"list a 1 {ALPHABET} - x  .",
        f"list A 1 {rest}", f"list - 1 {rest}", f"list abcdefghi 1 {rest}", f"list  1 {rest}", f"list a/b 1 {rest}",
        f"List a 1 {rest}", f"list 1 {rest}", f"list a {rest}", f"list a 1 - x .", f"list a {ALPHABET} 1 - x .",
        f"{folder} 0 {rest}", f"{folder} 01 {rest}", f"{folder} 001 {rest}", f"{folder} +1 {rest}",
        f"{folder} -1 {rest}",
        f"{folder} 1001 {rest}", f"{folder} 1.0 {rest}", f"{folder} 1_0 {rest}", f"{folder} one {rest}",
        f"{folder} q {rest}", f"{folder} 1q {rest}",
        f"{folder} {GREAT} {rest}", f"{folder} {'1' * 5000} {rest}", f"{folder} 0{10 ** 3} {rest}",
        f"{folder} 0x1 {rest}",
        f"{folder} {'0' * 40} {rest}", f"{folder} {'0' * 39}1 {rest}", f"{folder} 10000 {rest}", f"{folder} 1e2 {rest}",
        f"{folder} 1 {ALPHABET[:-1]} - x .", f"{folder} 1 {ALPHABET}a - x .", f"{folder} 1 {ALPHABET[:-1]}a - x .",
        f"{folder} 1 {ALPHABET.upper()} - x .", f"{folder} 1 {ALPHABET[:-1]}~ - x .", f"{folder} 1 - - x .",
        f"{folder} 1 {ALPHABET} -- x .", f"{folder} 1 {ALPHABET} X x .", f"{folder} 1 {ALPHABET} abcdefghi x .",
        f"{folder} 1 {ALPHABET} None x .", f"{folder} 1 {ALPHABET} + x .", f"{folder} 1 {ALPHABET} . x .",
        f"{folder} 1 {ALPHABET} - x", f"{folder} 1 {ALPHABET} - x ..", f"{folder} 1 {ALPHABET} - x . .",
        f"{folder} 1 {ALPHABET} - x + .", f"{folder} 1 {ALPHABET} - x . x", f"{folder} 1 {ALPHABET} - x -",
        f"{folder} 1 {ALPHABET} - x,y .", f"{folder} 1 {ALPHABET} - X .", f"{folder} 1 {ALPHABET} - a/x .",
        f"{folder} 1 {ALPHABET} - abcdefghi .", f"{folder} 1 {ALPHABET} - x x .", f"{folder} 1 {ALPHABET} - y x .",
        f"{folder} 1 {ALPHABET} - a c b .", f"{folder} 1 {ALPHABET} - +", f"{folder} 1 {ALPHABET} m +",
        f"{folder} 1 {ALPHABET} x x .", f"{folder} 1 {ALPHABET} y x .", f"{folder} 1 {BACKWARDS} - a b .",
        f"{folder} 2 {ALPHABET} - b c d .", f"{folder} 1 {ALPHABET} - x . ask", f"{folder} 1 {ALPHABET} - - x .",
        f"{folder} 1 {ALPHABET} - 1 .", f"{folder} 1 {ALPHABET} - x. ", f"{folder} 1 {ALPHABET} - x.",
    ]
    return lines


class ReadLogTest(TextCase):
    """Point [131], for logs."""

    def test_the_right_lines(self):
        for line in (f"list a 1 {ALPHABET} - x .", "ask a/x=in", "nothing", f"list a 2 {ALPHABET} - c b d ."):
            self.assertEqual(write_log(read_log(line)), line)

    def test_wrong_lines(self):
        right = ["nothing", "ask a/x=in a/y=out", f"list a 1 {ALPHABET} - x ."]
        for line in wrong_moments():
            if line != "":
                self.check_line(read_log, line, 1)
            for at in range(4):
                rows = right[:at] + [line] + right[at:]
                self.check_line(read_log, "\n".join(rows), at + 1)
                # The first wrong line counts.
                self.check_line(read_log, "\n".join(rows + [line, "x"]), at + 1)

    def test_wrong_looks_among_right_ones(self):
        for line in wrong_moments():
            if " & " not in line:
                for text in (f"ask & {line}", f"{line} & ask", f"ask & {line} & ask a/x=in"):
                    self.check_line(read_log, text, 1)

    def test_line_feeds(self):
        for text, line in [
            ("\n", 1), ("nothing\n", 2), ("\nnothing", 1), ("nothing\n\nnothing", 2), ("nothing\nnothing\n", 3),
            ("ask\n\n", 2), ("ask &\nask", 1), ("ask & \nask", 1), ("ask a/x=in\nask a/x=in \nx", 2),
        ]:
            self.check_line(read_log, text, line)

    def test_no_strings(self):
        for value in not_of(str) + [b"nothing", ["nothing"], Log()]:
            self.check_line(read_log, value, 0)

    def test_other_strings(self):
        for value in every_value():
            if isinstance(value, str) and value != "":
                self.check_line(read_log, value, 1)

    def test_a_new_log_each_time(self):
        log = read_log("ask\nnothing")
        log += []
        self.assertEqual(len(read_log("ask\nnothing")), 2)
        log = read_log("")
        log += []
        self.assertEqual(len(read_log("")), 0)

    def test_kinds(self):
        piece = read_log(f"list a 12 {BACKWARDS} - x +")[0][0]
        self.assertIs(type(piece), Piece)
        self.assertEqual((piece.folder, piece.mark, piece.names, piece.ended), ("a", None, ["x"], False))
        self.check_equal(piece.form, Form(BACKWARDS, 12))
        self.assertIs(type(piece.form.chains), int)
        ask = read_log("ask a/x=out a/y=in")[0][0]
        self.assertEqual(ask.answers, [(X, False), (Y, True)])


def wrong_firsts():
    return [
        "", " ", "First", "first ", " first", "firsts", "first  a/x", "first a/x ", "first a/x  a/y", "a/x", "first a",
        "first a/X", "first a/", "first /x", "first a/x/y", "first a//x", "first a/x a/x", "first a/y a/x", "first ax",
        "first b/a a/b", "first a/x a/y a/x", "first a/x,a/y", "first a/x=in", "first -", "first a/abcdefghi",
        "nothing",
        "0 add a/x", "0 first", "first 0", "first first", "ask a/x=in", "first a /x",
    ]


def wrong_changes():
    """Lines that cannot come behind the line "first a/x" and a change in gap 4 that adds a/y."""
    return [
        "", " ", "first", "first a/x", "4", "4 add", "4 add ", "add b/x", "4 add  b/x", "4  add b/x", " 4 add b/x",
        "4 add b/x ", "4 Add b/x", "4 adds b/x", "4 move a/x b/x", "4 add b/x b/y", "4 take", "4 take a/x a/y",
        "4 rename", "4 rename a/x", "4 rename a/x b/x b/y", "4 rename a/x  b/x", "04 add b/x", "+4 add b/x",
        "-4 add b/x", "004 add b/x", "4.0 add b/x", "4_0 add b/x", "x add b/x", "four add b/x", " add b/x", "- add b/x",
        f"0{GREAT} add b/x", "0x4 add b/x", f"{'0' * 39}4 add b/x", "00 add b/x", "-0 add b/x", "3 add b/x",
        "0 add b/x",
        "4 add a/x", "4 add a/y", "5 take b/x", "5 take a/z", "4 rename b/x a/z", "4 rename a/x a/y",
        "4 rename a/x a/x",
        "4 rename b/x b/x", "4 rename a/z a/x", "4 add b", "4 add b/", "4 add /x", "4 add B/x", "4 add b/x/y",
        "4 add bx",
        "4 add b/abcdefghi", "4 take a/x=in", "4 add b/x,", "add 4 b/x", "4 b/x add", "b/x 4 add", "nothing",
        "ask a/x=in",
        "4 rename a/x -> b/x", "4 rename a/x,b/x", "4:add b/x", "4 add - b/x",
        "4" * 5000 + " added b/x", "0" * 5000 + " add b/x", "4" * 5000 + "x add b/x",
    ]


class ReadStoryTest(TextCase):
    """Point [131], for stories."""

    def test_wrong_first_lines(self):
        for line in wrong_firsts():
            self.check_line(read_story, line, 1)
            self.check_line(read_story, line + "\n0 add c/c", 1)
            self.check_line(read_story, line + "\nx\n", 1)

    def test_wrong_changes(self):
        rows = ["first a/x", "4 add a/y"]
        behind = ["5 add c/x", "6 take c/x", "6 rename a/x c/x"]
        self.assertEqual(len(read_story("\n".join(rows + behind))), 4)
        for line in wrong_changes():
            for later in (behind, [], ["x"], behind[:1], [line, line]):
                self.check_line(read_story, "\n".join(rows + [line] + later), 3)
        for line in wrong_changes():
            if not line.startswith(("3 ", "0 ", "4 add a/y", "4 rename a/x a/y", "5 take")):
                self.check_line(read_story, f"first a/x\n{line}\n4 add a/y", 2)

    def test_a_wrong_last_line(self):
        text = "first a/x\n0 add a/y\n2 take a/x"
        wrong = ["1 add a/x", "2 take a/x", "2 rename a/x b/x", "2 rename b/x a/x", "3 add a/y", "02 add a/x", "", "x"]
        for line in wrong:
            self.check_line(read_story, text + "\n" + line, 4)
        self.assertEqual(len(read_story(text + "\n2 add a/x")), 3)

    def test_changes_that_hang_on_one_another(self):
        rows = ["first a/x a/y", "0 rename a/x b/x", "0 rename a/y a/x", "0 rename b/x a/y", "3 take a/x", "3 add a/x"]
        self.assertEqual(len(read_story("\n".join(rows))), 5)
        for left_out, line in ((1, 2), (2, 3), (3, None), (4, 5)):
            text = "\n".join(rows[:left_out] + rows[left_out + 1:])
            if line is None:
                self.assertEqual(len(read_story(text)), 4)
            else:
                self.check_line(read_story, text, line)

    def test_line_feeds(self):
        for text, line in [
            ("", 1), ("\n", 1), ("first\n", 2), ("\nfirst", 1), ("first\n\n0 add a/x", 2), ("first\n0 add a/x\n", 3),
        ]:
            self.check_line(read_story, text, line)

    def test_gaps(self):
        text = "first\n0 add a/x\n0 add a/y\n7 take a/x\n7 take a/y\n" + f"{GREAT} add a/x"
        self.assertEqual([read_story(text)[k][0] for k in range(5)], [0, 0, 7, 7, GREAT])
        self.check_line(read_story, text + f"\n{GREAT - 1} take a/x", 7)
        self.check_line(read_story, "first\n1 add a/x\n0 add a/y", 3)

    def test_no_strings(self):
        for value in not_of(str) + [b"first", ["first"], Story([])]:
            self.check_line(read_story, value, 0)

    def test_other_strings(self):
        for value in every_value():
            if isinstance(value, str):
                self.check_line(read_story, value, 1)

    def test_a_new_story_each_time(self):
        story = read_story("first\n0 add a/x")
        story += (1, "add", Y)
        self.assertEqual(len(read_story("first\n0 add a/x")), 1)


class MutationsTest(TextCase):
    """Texts with a character too many, too few, or another one: refused, or written again just so."""

    def check_text(self, read, write, text):
        try:
            got = read(text)
        except InvalidText as error:
            self.assertTrue(1 <= error.line <= len(text.split("\n")))
            self.assertIs(type(error), InvalidText)
            return False
        self.assertEqual(write(got), text)
        return True

    def test_by_chance(self):
        chance = random.Random()
        taken = 0
        for seed in range(60):
            _, story, log = chance_case(seed, chance, 4)
            pairs = [(read_log, write_log, write_log(log)), (read_story, write_story, write_story(story))]
            for read, write, text in pairs:
                for _ in range(40):
                    at = chance.randrange(len(text) + 1)
                    more = chance.choice(["", "", " ", "\n", "a", "z", "0", "1", "/", "=", ".", "-", "+", "&", "x"])
                    taken += self.check_text(read, write, text[:at] + more + text[at + chance.randint(0, 1):])
        self.assertGreater(taken, 200)
