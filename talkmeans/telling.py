"""First numbers told back from late ones, and talks and books that do the same."""

from talkmeans.deciding import least_by_ring
from talkmeans.determinants import determinant
from talkmeans.kinds import checked_numbers, even_tops, lowest
from talkmeans.ways import done


def told_back(talk, numbers):
    """The only values from which the talk leads to these ones, or None."""
    pairs = checked_numbers(numbers, len(talk))
    rows = talk.rows
    whole = determinant(rows)
    if whole == 0:
        return None
    tops, bottom = even_tops(pairs)
    # Cramer's rule for the equations: each row of weights leads to its sum times the value behind the talk.
    sums = [sum(row) * top for row, top in zip(rows, tops)]
    parts = [determinant(with_column(rows, j, sums)) for j in range(len(rows))]
    return tuple([quotient(part, whole * bottom) for part in parts])


def with_column(rows, j, column):
    """The rows with another column j."""
    return [row[:j] + (number,) + row[j + 1:] for row, number in zip(rows, column)]


def quotient(top, bottom):
    """The value top / bottom; the bottom may also be below 0."""
    return lowest(-top, -bottom) if bottom < 0 else lowest(top, bottom)


def first_of(book, row, numbers):
    """The only values from which the row leads to these ones, or None."""
    return told_back(done(book, row), numbers)


def swaps(book):
    """The pairs (p, q), p < q, of names of talks that do the same in both orders."""
    names = sorted(book.names)
    pairs = [(p, q) for p in names for q in names if p < q]
    return tuple([(p, q) for p, q in pairs if (book[p] >> book[q]) == (book[q] >> book[p])])


def alike(p, q):
    """Whether both books have rings of the same talks, with the same least closed lots."""
    return least_by_ring(p) == least_by_ring(q)
