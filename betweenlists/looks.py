"""Looks: what somebody saw at one moment, as a piece of a list or as answers about single places."""

from betweenlists.checks import check_place
from betweenlists.errors import InvalidLook
from betweenlists.forms import Form, key_in
from betweenlists.kinds import is_name, is_name_list, is_place


def _rise(form, mark, names):
    """Whether the names stand in the order of the form, all different and all behind the mark."""
    row = names if mark is None else [mark] + names
    keys = [key_in(form, name) for name in row]
    return all([low < high for low, high in zip(keys, keys[1:])])


def _is_piece(folder, form, mark, names, ended):
    if not (is_name(folder) and isinstance(form, Form)):
        return False
    if not (mark is None or is_name(mark)):
        return False
    if not (is_name_list(names) and isinstance(ended, bool)):
        return False
    # A piece without names has no last one, so only the end of the folder can bound it.
    return (len(names) > 0 or ended) and _rise(form, mark, names)


def _is_answer(value):
    return isinstance(value, tuple) and len(value) == 2 and is_place(value[0]) and isinstance(value[1], bool)


def _are_answers(value):
    if not (isinstance(value, list) and all([_is_answer(item) for item in value])):
        return False
    return len({place for place, _ in value}) == len(value)


class Look:
    """What a piece and an ask have in common; there are no other looks."""

    def __init__(self):
        raise TypeError("a look is a piece or an ask")


class Piece(Look):
    """A piece of the list of a folder, read behind a mark."""

    def __init__(self, folder, form, mark, names, ended):
        if not _is_piece(folder, form, mark, names, ended):
            raise InvalidLook((folder, form, mark, names, ended))
        self._folder = folder
        self._form = form
        self._mark = mark
        self._names = list(names)
        self._ended = ended
        # The keys between which the piece covers all names; None where nothing bounds it.
        self._low = None if mark is None else key_in(form, mark)
        self._high = None if ended else key_in(form, names[-1])

    @property
    def folder(self):
        """The folder that was read."""
        return self._folder

    @property
    def form(self):
        """The form in which it was read."""
        return self._form

    @property
    def mark(self):
        """The name behind which the piece begins, or None."""
        return self._mark

    @property
    def names(self):
        """A new list of the names that were told, in the order of the form."""
        return list(self._names)

    @property
    def ended(self):
        """Whether no name of the folder comes behind this piece."""
        return self._ended

    def says(self, place):
        """Whether the place stands, or None if the piece does not cover it."""
        check_place(place)
        if place not in self:
            return None
        return place[1] in self._names

    def standing(self):
        """The ascending list of the places that the piece says stand."""
        return sorted([(self._folder, name) for name in self._names])

    def __contains__(self, place):
        if not (is_place(place) and place[0] == self._folder):
            return False
        key = key_in(self._form, place[1])
        behind = self._low is None or self._low < key
        return behind and (self._high is None or key <= self._high)

    def __eq__(self, other):
        if not (isinstance(other, Piece) and self.folder == other.folder and self.form == other.form):
            return False
        return self.mark == other.mark and self.names == other.names and self.ended == other.ended


class Ask(Look):
    """Answers about single places."""

    def __init__(self, answers):
        if not _are_answers(answers):
            raise InvalidLook(answers)
        self._stands = dict(sorted(answers))

    @property
    def answers(self):
        """A new ascending list of the answers."""
        return list(self._stands.items())

    def says(self, place):
        """Whether the place stands, or None if nobody asked for it."""
        check_place(place)
        return self._stands.get(place)

    def standing(self):
        """The ascending list of the places that the ask says stand."""
        return [place for place, stands in self._stands.items() if stands]

    def __contains__(self, place):
        return is_place(place) and place in self._stands

    def __eq__(self, other):
        return isinstance(other, Ask) and self.answers == other.answers
