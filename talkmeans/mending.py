"""What makes a book agree, and what stops it."""

from talkmeans.deciding import agree
from talkmeans.lots import is_proper_part, parts_of

# With two firm people no ring agrees, so no greater lot is a least one.
LARGEST_STOPPER = 2


def strikes(book):
    """The least sets of names of talks without which the book agrees."""
    names = sorted(book.names)
    return least_parts(names, len(names) - 1, lambda struck: agree(without_all(book, struck)))


def without_all(book, names):
    """The book without the talks of these names."""
    for name in names:
        book = book.without(name)
    return book


def adds(book):
    """All (name, i, j) such that the book agrees if i heeds j in this talk, too."""
    if agree(book):
        return ()
    return tuple([(name, i, j) for name, i, j in not_heeded(book) if agree(book.heeding(name, i, j))])


def not_heeded(book):
    """All (name, i, j), ascending, such that i does not heed j in this talk."""
    many = book.people
    changes = [(name, i, j) for name in sorted(book.names) for i in range(many) for j in range(many)]
    return [(name, i, j) for name, i, j in changes if j not in book[name].heeds(i)]


def stoppers(book):
    """The least lots of people whose firmness stops agreement."""
    people = list(range(book.people))
    return least_parts(people, LARGEST_STOPPER, lambda lot: not agree(book.firm(lot)))


def least_parts(things, most, holds):
    """The parts of some ascending things, of at most so many, for which it holds, but for no part of them.

    Shorter ones come first, then ascending.
    """
    found = []
    for part in sorted([(), *parts_of(things)], key=lambda row: (len(row), row)):
        if len(part) <= most and not any([is_proper_part(least, part) for least in found]) and holds(part):
            found.append(part)
    return tuple(found)
