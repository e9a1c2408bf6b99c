"""Lots of people, and which talks close them."""

from talkmeans.ways import meet


def parts_of(things):
    """All parts, not empty, of some ascending things, ascending."""
    parts = [()]
    for thing in things:
        parts = parts + [part + (thing,) for part in parts]
    return sorted(parts)[1:]


def lots_of(people):
    """All lots, not empty, of so many people."""
    return parts_of(list(range(people)))


def closed_lots(talk):
    """All lots, not empty, that the talk closes."""
    return [lot for lot in lots_of(len(talk)) if talk.closes(lot)]


def least_of(lots):
    """Those of the lots none of which is a proper part of them."""
    return [lot for lot in lots if not any([is_proper_part(part, lot) for part in lots])]


def is_proper_part(part, lot):
    return len(part) < len(lot) and all([person in lot for person in part])


def lots_apart(book):
    """All (lot, lot, names): two lots, and the names of the talks that close both.

    The lots are not empty and have no common person, and the first one is less than the second one.
    """
    closing = closing_names(book)
    found = []
    for first in closing:
        for second in closing:
            if first < second and not meet(first, second):
                names = [name for name in closing[first] if name in closing[second]]
                found.append((first, second, tuple(names)))
    return found


def closing_names(book):
    """For each lot, not empty, the names of the talks that close it."""
    closing = {lot: [] for lot in lots_of(book.people)}
    for name, talk in book.talks:
        for lot in closed_lots(talk):
            closing[lot].append(name)
    return closing
