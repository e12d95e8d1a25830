"""Texts: logs and stories as lines, in exactly one way each."""

from betweenlists.changes import carry_out
from betweenlists.errors import InvalidForm, InvalidLook, InvalidStory, InvalidText
from betweenlists.forms import Form
from betweenlists.kinds import is_place, is_place_list
from betweenlists.logs import Log, check_log
from betweenlists.looks import Ask, Piece
from betweenlists.stories import Story, may_come

DIGITS = "0123456789"
NOTHING = "nothing"
NO_MARK = "-"
STANDS = {"in": True, "out": False}


def _place_text(place):
    return f"{place[0]}/{place[1]}"


def _piece_text(piece):
    mark = NO_MARK if piece.mark is None else piece.mark
    words = ["list", piece.folder, str(piece.form.chains), piece.form.letters, mark]
    return " ".join(words + piece.names + ["." if piece.ended else "+"])


def _ask_text(ask):
    answers = [_place_text(place) + ("=in" if stands else "=out") for place, stands in ask.answers]
    return " ".join(["ask"] + answers)


def _moment_text(looks):
    if not looks:
        return NOTHING
    return " & ".join([_piece_text(look) if isinstance(look, Piece) else _ask_text(look) for look in looks])


def write_log(log):
    """The text with a line for each moment of the log."""
    check_log(log)
    return "\n".join([_moment_text(log[k]) for k in range(len(log))])


def _change_text(change):
    return " ".join([str(change[0]), change[1]] + [_place_text(place) for place in change[2:]])


def write_story(story):
    """The text with a line for the first places of the story, and one for each change."""
    if not isinstance(story, Story):
        raise InvalidStory(story)
    first = " ".join(["first"] + [_place_text(place) for place in story.first])
    return "\n".join([first] + [_change_text(story[k]) for k in range(len(story))])


def _read_number(word):
    """The number that is written so, or None."""
    if word == "" or not all([letter in DIGITS for letter in word]) or (word[0] == "0" and word != "0"):
        return None
    number = 0
    # Digit by digit, as Python does not read thousands of digits at once.
    for letter in word:
        number = 10 * number + DIGITS.index(letter)
    return number


def _read_place(word):
    """The place that is written so, or None."""
    place = tuple(word.split("/"))
    return place if is_place(place) else None


def _read_answer(word):
    """The place that is answered for, and whether it stands; what cannot be read is None."""
    place, _, said = word.partition("=")
    return (_read_place(place), STANDS.get(said))


def _read_ask(words):
    answers = [_read_answer(word) for word in words]
    try:
        look = Ask(answers)
    except InvalidLook:
        return None
    return look if look.answers == answers else None


def _read_piece(words):
    if len(words) < 5 or words[-1] not in (".", "+"):
        return None
    folder, chains, letters, mark = words[:4]
    try:
        form = Form(letters, _read_number(chains))
        return Piece(folder, form, None if mark == NO_MARK else mark, words[4:-1], words[-1] == ".")
    except (InvalidForm, InvalidLook):
        return None


def _read_look(text):
    """The look that is written so, or None."""
    words = text.split(" ")
    if words[0] == "list":
        return _read_piece(words[1:])
    return _read_ask(words[1:]) if words[0] == "ask" else None


def _read_moment(line):
    """The looks of the moment that is written so, or None."""
    if line == NOTHING:
        return []
    looks = [_read_look(text) for text in line.split(" & ")]
    return None if any([look is None for look in looks]) else looks


def _check_text(value):
    if not isinstance(value, str):
        raise InvalidText(0)


def read_log(text):
    """The log that is written so."""
    _check_text(text)
    log = Log()
    lines = text.split("\n") if text != "" else []
    for number, line in enumerate(lines, start=1):
        looks = _read_moment(line)
        if looks is None:
            raise InvalidText(number)
        log += looks
    return log


def _read_first(line):
    """The ascending list of the first places that are written so, or None."""
    words = line.split(" ")
    places = [_read_place(word) for word in words[1:]]
    if words[0] != "first" or not is_place_list(places):
        return None
    return places if places == sorted(places) else None


def _read_change(line):
    """The change that is written so; a tuple that is no change if there is none."""
    words = line.split(" ")
    places = [_read_place(word) for word in words[2:]]
    return (_read_number(words[0]),) + tuple(words[1:2]) + tuple(places)


def read_story(text):
    """The story that is written so."""
    _check_text(text)
    lines = text.split("\n")
    first = _read_first(lines[0])
    if first is None:
        raise InvalidText(1)
    changes = []
    standing = {place: True for place in first}
    for number, line in enumerate(lines[1:], start=2):
        change = _read_change(line)
        if not may_come(change, changes[-1][0] if changes else 0, standing):
            raise InvalidText(number)
        carry_out(change, standing)
        changes.append(change)
    return Story(first, changes)
