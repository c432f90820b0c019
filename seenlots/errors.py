"""The errors that the package raises; each keeps what it was told."""


class NoView(LookupError):
    """A number is that of no VIEW of the SIGHT."""

    def __init__(self, number):
        self.number = number


class NoNumber(LookupError):
    """A number stands for nothing here."""

    def __init__(self, number):
        self.number = number


class NoWord(LookupError):
    """A word is none that is known."""

    def __init__(self, word):
        self.word = word


class NothingDone(LookupError):
    """There is nothing to be undone or done again."""


class Unfit(ValueError):
    """What was handed in does not fit."""


class NoPaper(ValueError):
    """What was asked for is not there."""


class TooMany(ValueError):
    """There would be too many of them."""


class BadText(ValueError):
    """A text is that of nothing."""


class BadLine(ValueError):
    """The line of this number, counted from 0, does not fit."""

    def __init__(self, number):
        self.number = number
