"""Desks, which do commands and answer with texts."""

from talkmeans.books import Book
from talkmeans.deciding import split, talks_to_meet
from talkmeans.errors import InvalidCommand
from talkmeans.kinds import is_name, is_number_word
from talkmeans.live import Live

LONGEST_INTEGER = 6
LIVE_WORDS = ("talk", "numbers", "undo")
BARE_WORDS = ("numbers", "agree", "meet", "undo")
CHUNK = 1000000000


class Desk:
    """A desk with a book and a live talk, as soon as there are any."""

    def __init__(self):
        self.book = None
        self.live = None

    def say(self, command):
        """The answer to a command, which is done now."""
        if not is_command(command):
            raise InvalidCommand()
        words = command.split(" ")
        if not self.can_do(words[0]):
            raise InvalidCommand()
        answer = ANSWERS[words[0]]
        return answer(self, words[1:])

    def can_do(self, word):
        """Whether there is what the command with this first word needs."""
        if self.book is None:
            return word == "book"
        return self.live is not None or word not in LIVE_WORDS


def is_command(command):
    """Whether any value at all has one of the forms of a command."""
    if not isinstance(command, str) or "\n" in command:
        return False
    words = command.split(" ")
    return "" not in words and has_form(words[0], words[1:])


def has_form(word, rest):
    """Whether a word and the rest of the words have one of the forms."""
    if word == "book":
        return len(rest) > 0
    if word == "people":
        return len(rest) > 0 and all([is_value_word(part) for part in rest])
    if word == "talk":
        return len(rest) == 1 and is_name(rest[0])
    return word in BARE_WORDS and len(rest) == 0


def is_value_word(word):
    """Whether a word tells a value, as p or p/q."""
    top, bar, bottom = word.partition("/")
    # Python writes 0 without a sign.
    if top == "-0" or not is_number_word(top.removeprefix("-"), LONGEST_INTEGER):
        return False
    return bar == "" or (is_number_word(bottom, LONGEST_INTEGER) and bottom != "0")


def told_value(word):
    """The value that a word tells."""
    top, _, bottom = word.partition("/")
    return (int(top), 1 if bottom == "" else int(bottom))


def value_word(value):
    """The word for a value in lowest terms."""
    top, bottom = value
    if bottom == 1:
        return integer_word(top)
    return f"{integer_word(top)}/{integer_word(bottom)}"


def integer_word(number):
    """An integer as Python writes it."""
    if number < 0:
        return "-" + integer_word(-number)
    parts = []
    # Python refuses to write very long integers at once, and a live talk may lead to such.
    while number >= CHUNK:
        number, low = divmod(number, CHUNK)
        parts.append(f"{low:09d}")
    parts.append(str(number))
    return "".join(parts[::-1])


def answer_book(desk, words):
    desk.book = Book.read(" ".join(words).replace(" ; ", "\n"))
    desk.live = None
    return str(len(desk.book.talks))


def answer_people(desk, words):
    desk.live = Live(desk.book, [told_value(word) for word in words])
    return "open"


def answer_talk(desk, words):
    return value_word(desk.live.do(words[0]))


def answer_numbers(desk, _):
    return " ".join([value_word(value) for value in desk.live.numbers])


def answer_agree(desk, _):
    found = split(desk.book)
    if found is None:
        return "yes"
    return " ".join(["no", *found[0]])


def answer_meet(desk, _):
    many = talks_to_meet(desk.book)
    return "never" if many is None else str(many)


def answer_undo(desk, _):
    return "undone" if desk.live.undo() else "nothing"


ANSWERS = {
    "book": answer_book,
    "people": answer_people,
    "talk": answer_talk,
    "numbers": answer_numbers,
    "agree": answer_agree,
    "meet": answer_meet,
    "undo": answer_undo,
}
