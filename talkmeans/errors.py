"""The errors of the package."""


class TalkError(ValueError):
    """The base of all errors of the package but NoTalk."""


class InvalidTalk(TalkError):
    """The row with this number is no row of a talk."""

    def __init__(self, at):
        self.at = at


class InvalidBook(TalkError):
    """The "talks" or the "steps" are none of a book."""

    def __init__(self, word):
        self.word = word


class InvalidText(TalkError):
    """The part or line with this number can't be read."""

    def __init__(self, at):
        self.at = at


class InvalidRow(TalkError):
    """The thing with this number can't stand there in a row of talks."""

    def __init__(self, at):
        self.at = at


class InvalidNumbers(TalkError):
    """The thing with this number is no value."""

    def __init__(self, at):
        self.at = at


class InvalidLot(TalkError):
    """This is no sequence of unlike people."""


class InvalidCommand(TalkError):
    """A desk does not do this command."""


class Refused(TalkError):
    """The talk with this number can't come here."""

    def __init__(self, at):
        self.at = at


class NoTalk(KeyError):
    """No talk of the book has this name."""

    def __init__(self, name):
        self.name = name
