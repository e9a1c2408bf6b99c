"""Whether all people come together in all endless rows of talks from a book."""

from talkmeans.lots import closed_lots, least_of, lots_apart, parts_of
from talkmeans.walks import goes_round, shortest_ring
from talkmeans.ways import meet


def agree(book):
    """Whether all come together in each endless row from the book, for all first numbers."""
    return split(book) is None


def split(book):
    """A shortest ring and two lots of people who never meet in it, or None if there is none."""
    best = None
    for names, (first, second) in lots_by_names(book).items():
        ring = shortest_ring(book, names)
        if ring is not None and (best is None or len(ring) < len(best[0])):
            best = (ring, first, second)
    return best


def lots_by_names(book):
    """For the names of the talks that close two lots, two lots that just these talks close."""
    found = {}
    # Which rings there are depends on the names alone, so any two such lots will do.
    for first, second, names in lots_apart(book):
        found[names] = (first, second)
    return found


def talks_to_meet(book):
    """How many talks it takes at most until any two have heard of somebody in common, or None."""
    if not agree(book):
        return None
    many = book.people
    # Whom two people have heard of is found from the last talk back to the first one.
    places = [((i,), (j,), book.names) for i in range(many) for j in range(i + 1, many)]
    count = 0
    while len(places) > 0:
        places = places_ahead(book, places)
        count += 1
    return count


def places_ahead(book, places):
    """The places (lot, lot, names) to which one more talk ahead leads, each once.

    The lots are those whom two people have heard of, who have nobody in common, and the names
    those of the talks that can come ahead.
    """
    found = set()
    for first, second, names in places:
        for name in names:
            heard = heeded(book[name], first)
            others = heeded(book[name], second)
            if not meet(heard, others):
                found.add((heard, others, names_ahead(book, name)))
    return sorted(found)


def heeded(talk, lot):
    """The lot of those whom somebody of a lot heeds."""
    return tuple(sorted({j for i in lot for j in talk.heeds(i)}))


def names_ahead(book, name):
    """The names of the talks behind which this one can come."""
    return tuple([first for first, then in book.steps if then == name])


def rings_of(book):
    """All sets of names that are just the talks of some ring."""
    return tuple([names for names in parts_of(sorted(book.names)) if goes_round(book, names)])


def least_by_ring(book):
    """For each set of names that are just the talks of some ring, its least closed lots."""
    closed = {name: closed_lots(talk) for name, talk in book.talks}
    found = {}
    # A ring closes just the lots that each of its talks closes.
    for names in rings_of(book):
        common = [lot for lot in closed[names[0]] if all([lot in closed[name] for name in names])]
        found[names] = least_of(common)
    return found
