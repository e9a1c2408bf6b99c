"""Where numbers end, and whose first numbers count there."""

from talkmeans.deciding import agree, least_by_ring
from talkmeans.determinants import minor
from talkmeans.kinds import checked_numbers, lowest, means
from talkmeans.lots import closed_lots, least_of
from talkmeans.talks import even_rows, mixed_row
from talkmeans.walks import lasting, longest, shortest_ring
from talkmeans.ways import done, meet


def weights(talk):
    """With what first numbers count in the end of the talk done again and again, or None."""
    counts = end_counts(talk)
    total = sum(counts)
    if total == 0:
        return None
    return tuple([lowest(count, total) for count in counts])


def end(talk, numbers):
    """The value to which all come if the talk is done again and again, or None."""
    pairs = checked_numbers(numbers, len(talk))
    counts = end_counts(talk)
    if sum(counts) == 0:
        return None
    return means([counts], pairs)[0]


def end_counts(talk):
    """Numbers that are to each other as the weights in the end; all 0 if not all come together."""
    many = len(talk)
    rows = talk.rows
    flows = [[sum(rows[i]) - rows[i][j] if i == j else -rows[i][j] for j in range(many)] for i in range(many)]
    # The talk keeps the mean by the weights in the end. So each weight, divided by the sum of its row, is
    # one of the numbers that the flows lead to 0, and those are to each other as the minors. By the matrix
    # tree theorem the minor of i is above 0 if everybody's heeding leads to i at last, and else it is 0.
    return [sum(rows[i]) * minor(flows, i) for i in range(many)]


def least_lots(talk):
    """All least closed lots of the talk."""
    return tuple(least_of(closed_lots(talk)))


def can_count(book):
    """The lot of all people who are in a least closed lot of some ring."""
    counting = [person for lots in least_by_ring(book).values() for lot in lots for person in lot]
    return tuple(sorted(set(counting)))


def settled(book):
    """With what first numbers count in the end of every endless row alike, or None."""
    ring = shortest_ring(book, book.names)
    if ring is None or not agree(book):
        return None
    whole = done(book, ring)
    counts = end_counts(whole)
    # What each lasting talk keeps, this ring keeps, too, and it keeps nothing else.
    if not all([keeps(book[name], counts) for name in lasting(book)]):
        return None
    return weights(whole)


def keeps(talk, counts):
    """Whether the mean by these counts is the same behind the talk, whatever the numbers are."""
    rows = even_rows(talk.rows)
    return mixed_row(counts, rows) == [count * sum(rows[0]) for count in counts]


def how_counts(book, i):
    """In the end of how many endless rows the first number of i counts, or None."""
    names = lasting(book)
    if len(names) == 0 or not agree(book):
        return None
    everybody = tuple(range(book.people))
    behind = hearing(book, i)
    if not can_stay_short(behind, everybody):
        return "always"
    if any([name in names and lot == everybody for name, lot in behind]):
        return "sometimes"
    return "never"


def hearing(book, i):
    """For each (name, lot) that (name, lot) can come behind it.

    The lot has all who have heard of i behind a row that ends with the talk of this name.
    """
    behind = {}
    waiting = [(name, hearers(book[name], (i,))) for name in book.names]
    while len(waiting) > 0:
        place = waiting.pop()
        if place not in behind:
            name, lot = place
            behind[place] = [(then, hearers(book[then], lot)) for then in book.behind(name)]
            waiting.extend(behind[place])
    return behind


def hearers(talk, lot):
    """The lot of those who heed somebody of a lot."""
    return tuple([person for person in range(len(talk)) if meet(talk.heeds(person), lot)])


def can_stay_short(behind, everybody):
    """Whether some endless row goes on without everybody's hearing."""
    short = {}
    for place in behind:
        if place[1] != everybody:
            short[place] = [then for then in behind[place] if then[1] != everybody]
    return len(longest(short)) < len(short)
