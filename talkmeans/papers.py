"""Papers, by which anybody can check that a book agrees."""

from talkmeans.kinds import is_int, is_number
from talkmeans.lots import lots_apart
from talkmeans.walks import longest, steps_inside

ENTRY_LENGTH = 4


def paper(book):
    """A right paper, or None if the book does not agree."""
    entries = []
    for first, second, names in lots_apart(book):
        ranks = longest(steps_inside(book, names))
        if len(ranks) < len(names):
            return None
        entries.extend([(first, second, name, ranks[name]) for name in names])
    return tuple(entries)


def paper_holds(book, value):
    """Whether any value at all is a right paper."""
    if not isinstance(value, tuple) or not all([is_entry(entry) for entry in value]):
        return False
    ranks = {(first, second, name): rank for first, second, name, rank in value}
    pairs = lots_apart(book)
    told = [(first, second, name) for first, second, names in pairs for name in names]
    # As many entries as told ones, and each told one among them: so none comes twice.
    if len(value) != len(told) or not all([key in ranks for key in told]):
        return False
    return all([ranks_fall(book, pair, ranks) for pair in pairs])


def is_entry(value):
    """Whether any value at all has the form of an entry, whatever it tells."""
    if not isinstance(value, tuple) or len(value) != ENTRY_LENGTH:
        return False
    first, second, name, rank = value
    return is_people(first) and is_people(second) and isinstance(name, str) and is_number(rank)


def is_people(value):
    # A bool equals a person, but is none.
    return isinstance(value, tuple) and all([is_int(person) for person in value])


def ranks_fall(book, pair, ranks):
    """Whether each step between entries of these two lots leads to a lower rank."""
    first, second, names = pair
    behind = steps_inside(book, names)
    return all([ranks[first, second, then] < ranks[first, second, name] for name in names for then in behind[name]])
