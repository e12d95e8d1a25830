"""Disks: live sets of places that keep what was looked at and what was done."""

from betweenlists.changes import carry_out, comes, goes, is_change, opposite
from betweenlists.checks import check_name, check_place
from betweenlists.errors import (
    Barred, Closed, Failed, InvalidChange, InvalidForm, InvalidList, InvalidName, InvalidNumber, Missing, Occupied,
)
from betweenlists.forms import Form
from betweenlists.kinds import is_name, is_place, is_place_list, is_whole
from betweenlists.logs import Log
from betweenlists.looks import Ask, Piece
from betweenlists.rules import rules_from
from betweenlists.stories import Story

MOST_NAMES = 12


def _check_places(value):
    if not is_place_list(value):
        raise InvalidList(value)


def _check_form(value):
    if not isinstance(value, Form):
        raise InvalidForm(value)


def _in_gap(gap, value):
    """The change of a disk as one in this gap; any value that is no change stays none."""
    return (gap,) + value if isinstance(value, tuple) else value


def _check_changes(value):
    if not isinstance(value, list):
        raise InvalidChange(value)
    for item in value:
        if not is_change(_in_gap(0, item)):
            raise InvalidChange(item)


def _check_possible(change, standing, rules):
    """Raises the error for a change that cannot be made if these places stand and these are the rules."""
    old, new = goes(change), comes(change)
    if old is not None and old not in standing:
        raise Missing(old)
    if new is not None and new in standing:
        raise Occupied(new)
    if old is not None and new is not None and not rules(old, new):
        raise Barred(old, new)


class Reader:
    """Reads a folder of a disk, piece by piece."""

    def __init__(self, disk, folder, most, mark, form):
        self._disk = disk
        self._folder = folder
        self._most = most
        self._mark = mark
        # The form of all pieces, or None for the one that the folder has at each of them.
        self._form = form
        self._told = []
        self._ended = False
        self._closed = False

    @property
    def mark(self):
        """The last name that was told; at first the mark behind which the reader begins, or None."""
        return self._mark

    @property
    def told(self):
        """A new list of all names that were told, in order."""
        return list(self._told)

    @property
    def ended(self):
        """Whether the last piece has ended."""
        return self._ended

    def read(self):
        """The next piece; None if the last one has ended."""
        if self._closed:
            raise Closed("the reader is closed")
        if self._ended:
            return None
        piece = self._next_piece()
        self._disk._keep(piece)
        self._told = self._told + piece.names
        if piece.names:
            self._mark = piece.names[-1]
        self._ended = piece.ended
        return piece

    def _next_piece(self):
        form = self._disk[self._folder] if self._form is None else self._form
        names = form.ordered([name for folder, name in self._disk.standing() if folder == self._folder])
        if self._mark is not None:
            names = [name for name in names if form(name) > form(self._mark)]
        return Piece(self._folder, form, self._mark, names[:self._most], len(names) <= self._most)

    def close(self):
        """Closes the reader: it reads no more."""
        self._closed = True

    def __enter__(self):
        return self

    def __exit__(self, kind, value, trace):
        self._closed = True


class Disk:
    """A live set of places, with the log of what was looked at and the changes that were made."""

    def __init__(self, first=None, *, form=None, rules=None):
        places = [] if first is None else first
        usual = Form() if form is None else form
        _check_places(places)
        _check_form(usual)
        self._rules = rules_from(rules)
        self._places = {place: True for place in places}
        self._form = usual
        self._laid = {}
        self._moments = []
        # The places that stood at the first moment of the log.
        self._begun = []
        # Each change has the number of the last moment before it as its gap, -1 if there was none.
        self._changes = []
        # The changes that can be taken back, the last one at the end.
        self._kept = []

    def _gap(self):
        return len(self._moments) - 1

    def _carry_out(self, change):
        carry_out(change, self._places)
        self._changes.append(change)

    def _make(self, value):
        change = _in_gap(self._gap(), value)
        _check_possible(change, self._places, self._rules)
        self._carry_out(change)
        self._kept.append(change)

    def add(self, place):
        """Adds a place."""
        check_place(place)
        self._make(("add", place))

    def take(self, place):
        """Takes a place away."""
        check_place(place)
        self._make(("take", place))

    def rename(self, one, other):
        """Renames one place to the other."""
        check_place(one)
        check_place(other)
        self._make(("rename", one, other))

    def make(self, changes):
        """Makes the changes of a list, one after another; none of them if one cannot be made."""
        _check_changes(changes)
        rows = [_in_gap(self._gap(), item) for item in changes]
        standing = {place: True for place in self._places}
        for step, change in enumerate(rows):
            try:
                _check_possible(change, standing, self._rules)
            except (Missing, Occupied, Barred) as why:
                raise Failed(step, why) from why
            carry_out(change, standing)
        for change in rows:
            self._carry_out(change)
            self._kept.append(change)

    def back(self):
        """Takes back the last change that can be, and returns the opposite change; None if there is none."""
        if not self._kept:
            return None
        change = opposite(self._kept[-1], self._gap())
        # The places stand as they did behind the last change, but the rules may be others than then.
        _check_possible(change, self._places, self._rules)
        self._kept.pop()
        self._carry_out(change)
        return change[1:]

    def __getitem__(self, at):
        check_name(at)
        return self._laid.get(at, self._form)

    def __setitem__(self, at, worth):
        check_name(at)
        _check_form(worth)
        self._laid[at] = worth

    def __iter__(self):
        raise TypeError("a disk is asked for its places by a method")

    @property
    def rules(self):
        """The rules of the disk now."""
        return self._rules

    @rules.setter
    def rules(self, value):
        self._rules = rules_from(value)

    def obey(self, rules):
        """Gives the disk other rules."""
        self._rules = rules_from(rules)

    def __contains__(self, place):
        return is_place(place) and place in self._places

    def __len__(self):
        return len(self._places)

    def standing(self):
        """The ascending list of the places that stand now."""
        return sorted(self._places)

    def _keep(self, look):
        """Appends a look that is right now to the log, as a moment of its own."""
        if not self._moments:
            self._begun = self.standing()
        self._moments.append([look])

    def ask(self, places):
        """Looks whether these places stand."""
        _check_places(places)
        look = Ask([(place, place in self._places) for place in places])
        self._keep(look)
        return look

    @property
    def log(self):
        """A new log of all that was looked at so far."""
        return Log(self._moments)

    @property
    def made(self):
        """The number of the changes made so far, those that took others back included."""
        return len(self._changes)

    def story(self):
        """What happened from the first moment of the log to the last one; None if it has no moment."""
        if not self._moments:
            return None
        return Story(self._begun, [change for change in self._changes if 0 <= change[0] < self._gap()])

    def reader(self, folder, *, most=1, mark=None, steady=False):
        """A reader of the folder, in pieces of at most so many names, behind the mark."""
        check_name(folder)
        if not (is_whole(most) and 1 <= most <= MOST_NAMES):
            raise InvalidNumber(most)
        if not (mark is None or is_name(mark)):
            raise InvalidName(mark)
        return Reader(self, folder, most, mark, self[folder] if steady else None)

    def whole(self, folder, *, most=1):
        """The pieces of the folder, read from the beginning to the end."""
        reader = self.reader(folder, most=most)
        pieces = [reader.read()]
        while not reader.ended:
            pieces.append(reader.read())
        return pieces

    def copy(self):
        """An independent disk with the same places, forms, rules, log and changes."""
        disk = Disk(self.standing(), form=self._form, rules=self._rules)
        disk._laid = {folder: form for folder, form in self._laid.items()}
        disk._moments = list(self._moments)
        disk._begun = list(self._begun)
        disk._changes = list(self._changes)
        disk._kept = list(self._kept)
        return disk
