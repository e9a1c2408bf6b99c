"""By how much differences of numbers shrink."""

from talkmeans.kinds import as_pair, even_tops, is_less, lowest
from talkmeans.talks import even_rows
from talkmeans.ways import done, names_behind


def factor(talk):
    """By what the greatest difference is at most multiplied in the talk."""
    rows = even_rows(talk.rows)
    total = sum(rows[0])
    many = len(rows)
    shared = [shared_weight(rows[i], rows[j]) for i in range(many) for j in range(i + 1, many)]
    # One person alone differs from nobody.
    return lowest(total - min(shared, default=total), total)


def shared_weight(first, second):
    return sum([min(weight, other) for weight, other in zip(first, second)])


def slowest(book, k):
    """The greatest factor of a row of k talks, or None if there is no such row."""
    best = slow_end(book, k)
    return None if best is None else best[1]


def slow_row(book, k):
    """A row of k talks that has the greatest factor, or None if there is no such row."""
    best = slow_end(book, k)
    return None if best is None else best[0]


def slow_end(book, k):
    """A row of k talks with the greatest factor, and this factor; or None."""
    best = None
    for row, talk in rows_done(book, k):
        now = factor(talk)
        if best is None or is_less(best[1], now):
            best = (row, now)
    return best


def rows_done(book, k):
    """All rows of k talks, each with the talk that does what it does."""
    rows = [((), done(book, ()))]
    for _ in range(k):
        rows = [(row + (name,), talk >> book[name]) for row, talk in rows for name in names_behind(book, row)]
    return rows


def spread(numbers):
    """The greatest difference of two of some values."""
    tops, bottom = even_tops([as_pair(value) for value in numbers])
    return lowest(max(tops) - min(tops), bottom)
