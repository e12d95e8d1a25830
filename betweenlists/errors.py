"""The errors of the package; their fields hold the very values that they are given."""


class BetweenError(ValueError):
    """Every error of the package is one of these."""


class InvalidName(BetweenError):
    """An argument has to be a name and is not."""

    def __init__(self, value=None):
        self.value = value


class InvalidPlace(BetweenError):
    """An argument has to be a place and is not."""

    def __init__(self, value=None):
        self.value = value


class InvalidForm(BetweenError):
    """An argument has to be a form, or to make one, and does not."""

    def __init__(self, value=None):
        self.value = value


class InvalidLook(BetweenError):
    """An argument has to be a look, or to make one, and does not."""

    def __init__(self, value=None):
        self.value = value


class InvalidLog(BetweenError):
    """An argument has to be a log, or a part of one, and is not."""

    def __init__(self, value=None):
        self.value = value


class InvalidRules(BetweenError):
    """An argument has to be rules, or to make them, and does not."""

    def __init__(self, value=None):
        self.value = value


class InvalidDemand(BetweenError):
    """An argument has to be a demand and is not."""

    def __init__(self, value=None):
        self.value = value


class InvalidStory(BetweenError):
    """An argument has to be a story, or to make one, and does not."""

    def __init__(self, value=None):
        self.value = value


class InvalidChange(BetweenError):
    """An argument has to be a change and is not."""

    def __init__(self, value=None):
        self.value = value


class InvalidNumber(BetweenError):
    """An argument has to be a number within some limits and is not."""

    def __init__(self, value=None):
        self.value = value


class InvalidList(BetweenError):
    """An argument has to be a list of certain items and is not."""

    def __init__(self, value=None):
        self.value = value


class InvalidText(BetweenError):
    """A text cannot be read, from this line on."""

    def __init__(self, line=None):
        self.line = line


class Missing(BetweenError):
    """A place would have to stand and does not."""

    def __init__(self, place=None):
        self.place = place


class Occupied(BetweenError):
    """A place would have not to stand and does."""

    def __init__(self, place=None):
        self.place = place


class Barred(BetweenError):
    """The rules do not allow the renaming of one place to the other."""

    def __init__(self, one=None, other=None):
        self.one = one
        self.other = other


class Failed(BetweenError):
    """A change of a list cannot be made; the field why is the error that it would raise."""

    def __init__(self, step=None, why=None):
        self.step = step
        self.why = why


class Closed(BetweenError):
    """A reader that was closed was asked to read."""
