"""Rows of talks from a book, and what they do."""

from talkmeans.errors import InvalidRow
from talkmeans.kinds import checked_numbers, is_sequence
from talkmeans.talks import Talk, own_row


def is_row(book, value):
    """Whether any value at all is a row of talks from the book."""
    return first_wrong_name(book, value) is None


def is_ring(book, value):
    """Whether any value at all is a row that can be gone round again and again."""
    return is_row(book, value) and len(value) > 0 and value[0] in book.behind(value[-1])


def done(book, row):
    """The talk that does what the whole row does."""
    check_row(book, row)
    many = book.people
    talk = Talk([own_row(i, many) for i in range(many)])
    for name in row:
        talk = talk >> book[name]
    return talk


def led(book, row, numbers):
    """The tuple of the tuples of values behind each talk of the row."""
    check_row(book, row)
    now = checked_numbers(numbers, book.people)
    behind = []
    for name in row:
        now = book[name].led(now)
        behind.append(now)
    return tuple(behind)


def apart(book, row):
    """The pairs of people who have heard of nobody in common behind the row."""
    talk = done(book, row)
    many = len(talk)
    lots = [talk.heeds(i) for i in range(many)]
    pairs = [(i, j) for i in range(many) for j in range(i + 1, many)]
    return tuple([pair for pair in pairs if not meet(lots[pair[0]], lots[pair[1]])])


def meet(first, second):
    return any([person in second for person in first])


def names_behind(book, row):
    """The names of the talks that can come behind a whole row."""
    if len(row) == 0:
        return book.names
    return book.behind(row[-1])


def check_row(book, row):
    wrong = first_wrong_name(book, row)
    if wrong is not None:
        raise InvalidRow(wrong)


def first_wrong_name(book, row):
    """The number of the first thing that can't stand there in a row, or None."""
    if not is_sequence(row):
        return 0
    for at, name in enumerate(row):
        if name not in book.names:
            return at
        if at > 0 and name not in book.behind(row[at - 1]):
            return at
    return None
