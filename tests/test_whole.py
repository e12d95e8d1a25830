"""What several modules promise together: what a disk really did, and what its log shows of it."""

import random

from betweenlists.cores import core, is_core
from betweenlists.demands import demands
from betweenlists.disks import Disk
from betweenlists.errors import Barred, Failed
from betweenlists.fewest import apart, fewest, is_apart, story_of
from betweenlists.forms import Form
from betweenlists.gaps import busy, disjoint, story_in
from betweenlists.renamings import always_renamed, renamed, sure_renamings
from betweenlists.rules import Rules
from betweenlists.sure import course, standing, stood
from betweenlists.texts import read_log, read_story, write_log, write_story
from tests.cases import Case
from tests.values import BACKWARDS
from tests.worlds import FORMS

PLACES = [(folder, name) for folder in "ab" for name in "vwxyz"]
NOBODY = ("c", "x")


def chance_rules(chance):
    pairs = [(one, other) for one in PLACES for other in PLACES]
    return Rules(across=chance.random() < 0.6, barred=chance.sample(pairs, chance.choice([0, 5, 20])))


def change_something(chance, disk):
    """Makes a change by one of the ways to make it, if it can be made."""
    here, there = disk.standing(), [place for place in PLACES if place not in disk]
    changes = [("take", place) for place in here] + [("add", place) for place in there]
    changes += [("rename", one, other) for one in here for other in there] * 2
    change = chance.choice(changes)
    try:
        if chance.random() < 0.2:
            disk.back()
        elif chance.random() < 0.5:
            disk.make([change])
        else:
            getattr(disk, change[0])(*change[1:])
    except (Barred, Failed):
        pass


def look_somewhere(chance, disk, readers):
    """One look: a piece of one of the readers, or an ask."""
    open_ones = [reader for reader in readers if not reader.ended]
    if open_ones and chance.random() < 0.6:
        chance.choice(open_ones).read()
    elif chance.random() < 0.5:
        readers.append(disk.reader(chance.choice("ab"), most=chance.randint(1, 4), steady=chance.random() < 0.5))
        readers[-1].read()
    else:
        disk.ask(chance.sample(PLACES, chance.randint(0, 6)))


def chance_disk(seed, moments=8):
    """A disk to which something happened, with one set of rules throughout."""
    chance = random.Random(seed)
    disk = Disk(
        [place for place in PLACES if chance.random() < 0.5], form=chance.choice(FORMS), rules=chance_rules(chance)
    )
    readers = []
    while len(disk.log) < moments:
        if chance.random() < 0.4:
            change_something(chance, disk)
        elif chance.random() < 0.1:
            disk[chance.choice("ab")] = chance.choice(FORMS)
        else:
            look_somewhere(chance, disk, readers)
    return disk


class WholeTest(Case):
    def setUp(self):
        self.disks = [chance_disk(seed) for seed in range(40)]

    def test_the_story_fits_the_log(self):
        for disk in self.disks:
            self.assertIs(disk.story().fits(disk.log), True)
            self.assertLessEqual(len(disk.story()), disk.made)
            self.assertIs(disk.log.clash(), None)

    def test_the_rules_allow_the_story(self):
        # What takes a change back has to be allowed, too.
        for disk in self.disks:
            self.assertIs(disk.story().allowed(disk.rules), True)

    def test_fewest(self):
        found = []
        for disk in self.disks:
            log, rules = disk.log, disk.rules
            many = fewest(log, rules=rules)
            self.assertLessEqual(many, len(disk.story()))
            self.assertLessEqual(fewest(log), many)
            self.assertLessEqual(many, len(demands(log)))
            self.assertEqual(len(story_of(log, rules=rules)), many)
            self.assertIs(is_apart(log, apart(log, rules=rules), rules=rules), True)
            self.assertEqual(fewest(log.turned(), rules=rules.turned()), many)
            found.append(many)
        self.assertGreater(len([many for many in found if many > 2]), 5)

    def test_wider_rules_never_take_more(self):
        for disk in self.disks:
            narrow = disk.rules & Rules(across=False)
            self.assertIs(narrow.within(disk.rules), True)
            self.assertGreaterEqual(fewest(disk.log, rules=narrow), fewest(disk.log, rules=disk.rules))
            wide = disk.rules | Rules(barred=[(PLACES[0], PLACES[1])])
            self.assertLessEqual(fewest(disk.log, rules=wide), fewest(disk.log, rules=disk.rules))

    def test_few_gaps(self):
        for disk in self.disks:
            log, story = disk.log, disk.story()
            happened = sorted({story[k][0] for k in range(len(story))})
            self.assertLessEqual(len(busy(log)), len(happened))
            self.assertEqual(len(disjoint(log)), len(busy(log)))
            got = story_in(log, happened, rules=disk.rules)
            self.assertTrue(fewest(log, rules=disk.rules) <= len(got) <= len(story))
            for row in disjoint(log):
                self.assertTrue(any(row[1] <= gap < row[2] for gap in happened))

    def test_what_is_sure_is_true(self):
        for disk in self.disks:
            log, story, rules = disk.log, disk.story(), disk.rules
            spare = len(story) - fewest(log, rules=rules)
            for place in PLACES + [NOBODY]:
                for k, said in enumerate(course(log, place, spare=spare, rules=rules)):
                    self.assertIn(said, (None, place in story.at(k)))
            for k in range(len(log)):
                self.assertLessEqual(set(standing(log, k, spare=spare, rules=rules)), set(story.at(k)))
            self.assertIs(stood(log, 0, NOBODY, spare=spare, rules=rules), None)

    def test_the_renamings_that_were_made(self):
        many = 0
        for disk in self.disks:
            log, story, rules = disk.log, disk.story(), disk.rules
            spare = len(story) - fewest(log, rules=rules)
            changes = [story[k] for k in range(len(story))]
            made = [change[2:] for change in changes if change[1] == "rename"]
            for change in changes:
                if change[1] == "rename":
                    many += 1
                    got = renamed(log, change[0], change[2], change[3], spare=spare, rules=rules)
                    self.assertIs(got.fits(log) and got.allowed(rules), True)
            if spare == 0:
                self.assertLessEqual(set(sure_renamings(log, rules=rules)), set(made))
            for one, other in sure_renamings(log, rules=rules):
                self.assertIs(always_renamed(log, one, other, rules=rules), True)
                gaps = [gap for gap in range(len(log) - 1) if renamed(log, gap, one, other, rules=rules) is not None]
                self.assertGreater(len(gaps), 0)
        self.assertGreater(many, 20)

    def test_cores(self):
        for disk in self.disks:
            moments = core(disk.log, rules=disk.rules)
            self.assertIs(is_core(disk.log, moments, rules=disk.rules), True)
            self.assertLessEqual(fewest(disk.log.part(moments), rules=disk.rules), len(disk.story()))

    def test_texts(self):
        for disk in self.disks:
            self.check_equal(read_log(write_log(disk.log)), disk.log)
            self.check_equal(read_story(write_story(disk.story())), disk.story())
            got = story_of(disk.log, rules=disk.rules)
            self.check_equal(read_story(write_story(got)), got)

    def test_copies_and_logs_that_are_put_together(self):
        for disk in self.disks[:20]:
            copy = disk.copy()
            copy.ask(PLACES)
            self.check_equal(copy.log.part(list(range(len(disk.log)))), disk.log)
            self.assertIs(copy.story().fits(copy.log), True)
            self.assertGreaterEqual(fewest(copy.log, rules=disk.rules), fewest(disk.log, rules=disk.rules))
            turned = copy.story().turned(len(copy.log))
            self.assertIs(turned.fits(copy.log.turned()), True)

    def test_two_whole_readings(self):
        """Two whole readings have one demand for each name that just one of them told, as [62] says."""
        for seed in range(40):
            chance = random.Random(seed)
            form = chance.choice([Form(), Form(BACKWARDS), Form(chains=3)])
            disk = Disk([place for place in PLACES if chance.random() < 0.5], form=form)
            told = []
            for _ in range(2):
                reader = disk.reader("a", most=chance.randint(1, 3))
                while not reader.ended:
                    reader.read()
                    if chance.random() < 0.4:
                        change_something(chance, disk)
                told.append(set(reader.told))
            names = [place[1] for place, _, _, _ in demands(disk.log)]
            self.assertEqual(names, sorted(told[0] ^ told[1]))
