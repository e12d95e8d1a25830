"""Tests of the points [126], [127] and [128], and of [2] as far as it concerns readers."""

import random

from betweenlists.disks import Disk, Reader
from betweenlists.errors import Closed, InvalidName, InvalidNumber
from betweenlists.forms import Form
from betweenlists.logs import Log
from betweenlists.looks import Ask, Piece
from betweenlists.rules import Rules
from tests.cases import Case
from tests.values import BACKWARDS, names, no_names, no_whole_numbers

NAMES = [letter for letter in "bcdfghklmnpqrst"]
BACK = Form(BACKWARDS)
CHAINS = Form(chains=3)


def disk_of(names, form=None, folder="a"):
    return Disk([(folder, name) for name in names], form=form)


def row_of(reader):
    """All pieces up to the end."""
    pieces = []
    while not reader.ended:
        pieces.append(reader.read())
    return pieces


class ReaderCase(Case):
    def check_reader(self, reader, told, mark, ended):
        self.assertEqual(reader.told, told)
        self.assertIs(type(reader.told), list)
        self.assertEqual(reader.mark, mark)
        self.assertIs(reader.ended, ended)


class MakingTest(ReaderCase):
    """Point [126]."""

    def test_before_the_first_piece(self):
        disk = disk_of("xy")
        self.check_reader(disk.reader("a"), [], None, False)
        self.check_reader(disk.reader(folder="a", most=12, mark="x", steady=True), [], "x", False)
        self.check_reader(disk.reader("c", mark=None), [], None, False)
        self.assertIs(type(disk.reader("a")), Reader)
        self.assertEqual(len(disk.log), 0)

    def test_no_folders(self):
        for value in no_names():
            self.check_raises(InvalidName, value, Disk().reader, value)
            self.check_raises(InvalidName, value, Disk().reader, value, most=0, mark=1)
            self.check_raises(InvalidName, value, Disk().whole, value)
            self.check_raises(InvalidName, value, Disk().whole, value, most=0)

    def test_numbers_of_names(self):
        for most in range(1, 13):
            disk = disk_of(NAMES)
            self.assertEqual(len(disk.reader("a", most=most).read().names), most)
            self.assertEqual(len(disk.whole("a", most=most)[0].names), most)

    def test_no_numbers(self):
        disk = disk_of(NAMES)
        for value in [0, -1, 13, 14, 10 ** 39, -(10 ** 39)] + no_whole_numbers():
            self.check_raises(InvalidNumber, value, disk.reader, "a", most=value)
            self.check_raises(InvalidNumber, value, disk.reader, "a", most=value, mark="X")
            self.check_raises(InvalidNumber, value, disk.whole, "a", most=value)
        self.assertEqual(len(disk.log), 0)

    def test_no_marks(self):
        for value in no_names():
            if value is not None:
                self.check_raises(InvalidName, value, Disk().reader, "a", mark=value)
                self.check_raises(InvalidName, value, Disk().reader, "a", most=12, mark=value, steady=True)

    def test_any_mark(self):
        for mark in names():
            disk = disk_of(["m"])
            reader = disk.reader("a", mark=mark)
            self.check_reader(reader, [], mark, False)
            piece = reader.read()
            self.check_equal(piece, Piece("a", Form(), mark, ["m"] if mark < "m" else [], True))

    def test_only_by_name(self):
        disk = disk_of("x")
        for call in (disk.reader, disk.whole):
            with self.assertRaises(TypeError):
                call("a", 2)


class ReadTest(ReaderCase):
    """Point [127]."""

    def test_pieces(self):
        disk = Disk([("a", name) for name in "dbxca"] + [("b", "e"), ("aa", "f")])
        reader = disk.reader("a", most=2)
        pieces = [
            Piece("a", Form(), None, ["a", "b"], False), Piece("a", Form(), "b", ["c", "d"], False),
            Piece("a", Form(), "d", ["x"], True),
        ]
        for k, (piece, told, ended) in enumerate(zip(pieces, ["ab", "abcd", "abcdx"], [False, False, True])):
            self.check_equal(reader.read(), piece)
            self.check_reader(reader, list(told), told[-1], ended)
            self.check_equal(disk.log, Log([[piece] for piece in pieces[:k + 1]]))
        for _ in range(2):
            self.assertIs(reader.read(), None)
            self.check_reader(reader, list("abcdx"), "x", True)
            self.assertEqual(len(disk.log), 3)

    def test_folders_without_places(self):
        disk = disk_of("x")
        reader = disk.reader("c")
        self.check_equal(reader.read(), Piece("c", Form(), None, [], True))
        self.check_reader(reader, [], None, True)
        self.assertIs(reader.read(), None)
        reader = disk.reader("c", mark="m")
        self.check_equal(reader.read(), Piece("c", Form(), "m", [], True))
        self.check_reader(reader, [], "m", True)
        self.assertEqual(len(disk.log), 2)

    def test_the_last_name_ends_the_piece(self):
        for most, sizes in ((1, [1, 1, 1, 1]), (2, [2, 2]), (3, [3, 1]), (4, [4]), (5, [4])):
            pieces = row_of(disk_of("abcd").reader("a", most=most))
            self.assertEqual([len(piece.names) for piece in pieces], sizes)
            self.assertEqual([piece.ended for piece in pieces], [False] * (len(sizes) - 1) + [True])

    def test_marks(self):
        for mark, told in [("c", "de"), ("e", ""), ("z", ""), ("cc", "de"), ("a", "bcde"), ("aa", "bcde"), ("da", "e")]:
            reader = disk_of("bcde").reader("a", mark=mark, most=12)
            self.assertEqual(reader.read().names, list(told))
            self.check_reader(reader, list(told), told[-1] if told else mark, True)

    def test_places_that_come_and_go(self):
        disk = disk_of("bdf")
        reader = disk.reader("a")
        reader.read()
        disk.make([("take", ("a", "b")), ("add", ("a", "a")), ("add", ("a", "c"))])
        self.check_equal(reader.read(), Piece("a", Form(), "b", ["c"], False))
        disk.take(("a", "c"))
        disk.rename(("a", "f"), ("a", "b"))
        self.check_equal(reader.read(), Piece("a", Form(), "c", ["d"], True))
        disk.add(("a", "g"))
        self.assertIs(reader.read(), None)
        self.check_reader(reader, ["b", "c", "d"], "d", True)

    def test_the_end_comes_to_a_reader(self):
        disk = disk_of("bd")
        reader = disk.reader("a")
        self.assertIs(reader.read().ended, False)
        disk.take(("a", "d"))
        self.check_equal(reader.read(), Piece("a", Form(), "b", [], True))
        self.check_reader(reader, ["b"], "b", True)

    def test_forms(self):
        disk = disk_of(["a", "b", "c", "ab"], CHAINS)
        pieces = row_of(disk.reader("a", most=3))
        self.check_equal(pieces[0], Piece("a", CHAINS, None, ["a", "ab", "b"], False))
        self.check_equal(pieces[1], Piece("a", CHAINS, "b", ["c"], True))

    def test_laid_anew_between_two_pieces(self):
        disk = disk_of("abcd")
        steady, other = disk.reader("a", steady=True), disk.reader("a", steady=False)
        steady.read()
        other.read()
        disk["a"] = BACK
        self.check_equal(steady.read(), Piece("a", Form(), "a", ["b"], False))
        self.check_equal(other.read(), Piece("a", BACK, "a", [], True))
        steady, other = disk.reader("a", most=2, steady=True), disk.reader("a", most=2)
        self.check_equal(other.read(), Piece("a", BACK, None, ["d", "c"], False))
        disk["a"] = Form()
        self.check_equal(steady.read(), Piece("a", BACK, None, ["d", "c"], False))
        self.check_equal(other.read(), Piece("a", Form(), "c", ["d"], True))
        self.check_reader(other, ["d", "c", "d"], "d", True)
        self.check_equal(steady.read(), Piece("a", BACK, "c", ["b", "a"], True))

    def test_laid_anew_before_the_first_piece(self):
        disk = disk_of("abc")
        steady, other = disk.reader("a", steady=True), disk.reader("a")
        disk["a"] = BACK
        self.assertEqual((steady.read().names, other.read().names), (["a"], ["c"]))
        disk["b"] = CHAINS
        self.check_equal(other.read().form, BACK)

    def test_several_readers(self):
        disk = disk_of("abc")
        one, other = disk.reader("a"), disk.reader("a", most=2)
        pieces = [one.read(), other.read(), disk.ask([("a", "c")]), one.read(), other.read()]
        self.check_equal(disk.log, Log([[piece] for piece in pieces]))
        self.assertEqual((one.told, other.told), (["a", "b"], ["a", "b", "c"]))
        self.check_equal(pieces[2], Ask([(("a", "c"), True)]))

    def test_told_is_a_new_list(self):
        reader = disk_of("abc").reader("a", most=2)
        reader.read().names.clear()
        reader.told.append("z")
        reader.read()
        self.check_reader(reader, ["a", "b", "c"], "c", True)

    def test_names_that_stand_all_the_time(self):
        chance = random.Random()
        for seed in range(150):
            chance.seed(seed)
            form = chance.choice([Form(), BACK, CHAINS])
            disk = disk_of([name for name in NAMES if chance.random() < 0.6], form)
            steady = chance.random() < 0.5
            reader = disk.reader("a", most=chance.randint(1, 4), steady=steady)
            always, k = None, 0
            while not reader.ended:
                here = {name for _, name in disk.standing()}
                always = here if always is None else always & here
                before = reader.mark
                piece = reader.read()
                behind = [name for name in here if before is None or form(name) > form(before)]
                self.assertEqual(piece.names, form.ordered(behind)[:len(piece.names)])
                self.assertIs(piece.ended, len(behind) == len(piece.names))
                self.check_equal(disk.log[k][0], piece)
                k += 1
                if steady:
                    disk["a"] = chance.choice([Form(), BACK, CHAINS])
                for _ in range(2):
                    place = ("a", chance.choice(NAMES))
                    disk.take(place) if place in disk else disk.add(place)
            self.assertEqual(len(set(reader.told)), len(reader.told))
            self.assertLessEqual(always, set(reader.told))
            self.assertIs(disk.story().fits(disk.log), True)


class CloseTest(ReaderCase):
    """Point [128]."""

    def check_closed(self, disk, reader, told, mark, ended):
        before = len(disk.log)
        for _ in range(2):
            with self.assertRaises(Closed) as held:
                reader.read()
            self.assertIs(type(held.exception), Closed)
            self.check_reader(reader, told, mark, ended)
        self.assertEqual(len(disk.log), before)

    def test_close(self):
        disk = disk_of("abc")
        reader = disk.reader("a")
        reader.read()
        for _ in range(2):
            self.assertIs(reader.close(), None)
            self.check_closed(disk, reader, ["a"], "a", False)
        self.assertEqual(disk.reader("a").read().names, ["a"])

    def test_close_before_the_first_piece(self):
        disk = disk_of("abc")
        reader = disk.reader("a", mark="b")
        reader.close()
        self.check_closed(disk, reader, [], "b", False)

    def test_close_behind_the_end(self):
        disk = disk_of("a")
        reader = disk.reader("a")
        reader.read()
        self.assertIs(reader.read(), None)
        reader.close()
        self.check_closed(disk, reader, ["a"], "a", True)

    def test_with(self):
        disk = disk_of("abc")
        made = disk.reader("a", most=2)
        with made as reader:
            self.assertIs(reader, made)
            self.assertEqual(reader.read().names, ["a", "b"])
        self.check_closed(disk, reader, ["a", "b"], "b", False)
        with disk.reader("a", most=3) as reader:
            reader.read()
        self.check_closed(disk, reader, ["a", "b", "c"], "c", True)

    def test_with_an_error(self):
        disk = disk_of("abc")
        for error in (ValueError("x"), KeyError(), Closed(), KeyboardInterrupt()):
            with self.assertRaises(type(error)) as held:
                with disk.reader("a") as reader:
                    reader.read()
                    raise error
            self.assertIs(held.exception, error)
            self.check_closed(disk, reader, ["a"], "a", False)

    def test_closed_within_the_block(self):
        disk = disk_of("abc")
        with disk.reader("a") as reader:
            reader.close()
            self.check_closed(disk, reader, [], None, False)
        self.check_closed(disk, reader, [], None, False)

    def test_whole(self):
        disk = disk_of("cab", CHAINS)
        disk.ask([])
        pieces = disk.whole("a")
        self.assertIs(type(pieces), list)
        self.assertEqual([piece.names for piece in pieces], [["a"], ["b"], ["c"]])
        self.assertEqual([piece.mark for piece in pieces], [None, "a", "b"])
        self.assertEqual([piece.ended for piece in pieces], [False, False, True])
        self.check_equal(disk.log, Log([[Ask([])]] + [[piece] for piece in pieces]))
        pieces.clear()
        self.assertEqual(len(disk.log), 4)
        more = disk.whole(folder="a", most=2)
        self.assertEqual([piece.names for piece in more], [["a", "b"], ["c"]])
        self.check_equal(disk.whole("b")[0], Piece("b", CHAINS, None, [], True))
        self.assertEqual(len(disk.whole("a", most=12)), 1)
        self.assertEqual(len(disk.log), 8)

    def test_whole_beside_another_reader(self):
        disk = disk_of("abc")
        reader = disk.reader("a")
        reader.read()
        disk.whole("a")
        self.assertEqual(reader.read().names, ["b"])
        self.check_reader(reader, ["a", "b"], "b", False)

    def test_examples_of_section_12(self):
        disk = Disk([("a", "x"), ("a", "y")])
        reader = disk.reader("a")
        reader.read()
        disk.rename(("a", "x"), ("a", "z"))
        self.assertEqual([reader.read().names, reader.read().names, reader.ended], [["y"], ["z"], True])
        self.assertEqual((disk.made, len(disk.story())), (1, 1))
        self.assertEqual(disk.back(), ("rename", ("a", "z"), ("a", "x")))
        self.assertEqual(reader.told, ["x", "y", "z"])
        disk = Disk([("b", "x")])
        disk.rules = Rules(across=False)
        with disk.reader("b") as reader:
            names = reader.read().names
        self.assertEqual((names, reader.ended, disk.rules.across), (["x"], True, False))
