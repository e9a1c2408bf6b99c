"""What the document promises, found in other ways than the package finds it."""

import itertools
from fractions import Fraction

from samples import shares


def pattern(talk):
    """Who heeds whom, as a tuple of frozen sets."""
    return tuple(frozenset(j for j, weight in enumerate(row) if weight > 0) for row in talk.rows)


def pattern_behind(first, then):
    """Who has heard of whom behind both."""
    return tuple(frozenset().union(*[first[k] for k in heard]) for heard in then)


def nobody_heard(people):
    return tuple(frozenset([i]) for i in range(people))


def reach(heard):
    """Whom each person hears of if a talk with this pattern is done again and again."""
    for _ in heard:
        heard = pattern_behind(heard, heard)
    return heard


def least_lots_of(heard):
    """The lots of people who hear of each other for ever, and of nobody else."""
    far = reach(heard)
    return {far[i] for i in range(len(far)) if all(far[j] == far[i] for j in far[i])}


def rows_with_patterns(book):
    """All (first name, last name, set of names, pattern) of rows of at least one talk, however long."""
    patterns = {name: pattern(talk) for name, talk in book.talks}
    waiting = [(name, name, frozenset([name]), patterns[name]) for name in book.names]
    found = set(waiting)
    while waiting:
        first, last, names, heard = waiting.pop()
        for then in book.behind(last):
            more = (first, then, names | {then}, pattern_behind(heard, patterns[then]))
            if more not in found:
                found.add(more)
                waiting.append(more)
    return found


def rings_with_patterns(book):
    """All (set of names, pattern, first name) of rings, however long."""
    rows = rows_with_patterns(book)
    return {(names, heard, first) for first, last, names, heard in rows if (last, first) in book.steps}


def all_agree(book):
    """Whether behind each ring gone round again and again everybody has heard of somebody in common."""
    return all(frozenset.intersection(*reach(heard)) for _, heard, _ in rings_with_patterns(book))


def layers(book):
    """For k = 0, 1, .. all (last name, pattern) of rows of k talks."""
    patterns = {name: pattern(talk) for name, talk in book.talks}
    layer = {(None, nobody_heard(book.people))}
    while True:
        yield layer
        layer = {
            (then, pattern_behind(heard, patterns[then]))
            for last, heard in layer
            for then in (book.names if last is None else book.behind(last))
        }


def all_meet(heard):
    return all(one & other for one, other in itertools.combinations(heard, 2))


def meeting(book):
    """The least k such that any two have somebody in common behind all rows of k talks, for a book that agrees."""
    for k, layer in enumerate(layers(book)):
        if all(all_meet(heard) for _, heard in layer):
            return k


def kept_by(talk):
    """The weights with which the first numbers count in the end of a talk behind which all come together."""
    rows, many = shares(talk), range(len(talk))
    lines = [[rows[i][j] - (i == j) for i in many] + [Fraction(0)] for j in many]
    return solved(lines + [[Fraction(1)] * len(talk) + [Fraction(1)]], len(talk))


def solved(lines, many):
    """The only solution of these equations, by elimination."""
    for column in range(many):
        chosen = next(line for line in lines[column:] if line[column] != 0)
        lines.remove(chosen)
        chosen = [number / chosen[column] for number in chosen]
        lines = [[a - line[column] * b for a, b in zip(line, chosen)] for line in lines]
        lines.insert(column, chosen)
    assert all(not any(line) for line in lines[many:])
    return tuple(line[-1] for line in lines[:many])


def ends_of(book, rings, rows):
    """The weights in the ends of all endless rows that begin with one of the rows and then go round a ring."""
    found = set()
    for names, talk in rings.items():
        kept = kept_by(talk)
        for row, first in rows.items():
            if not row or (row[-1], names[0]) in book.steps:
                led = shares(first)
                found.add(tuple(sum(kept[k] * led[k][j] for k in range(len(kept))) for j in range(len(kept))))
    return found


def counting(book, i):
    """Whether the first number of i counts, for each endless row that goes round some ring in the end."""
    starts = {(last, heard) for _, last, _, heard in rows_with_patterns(book)}
    starts.add((None, nobody_heard(book.people)))
    found = set()
    for _, heard, first in rings_with_patterns(book):
        (least,) = least_lots_of(heard)
        for last, before in starts:
            if last is None or (last, first) in book.steps:
                found.add(any(i in before[k] for k in least))
    return found


def lots_apart(people):
    """All two lots, not empty, without a common person, the first one less than the second one."""
    lots = [lot for k in range(1, people + 1) for lot in itertools.combinations(range(people), k)]
    return [(p, q) for p in lots for q in lots if p < q and not set(p) & set(q)]


def closes(talk, lot):
    return all(talk.rows[i][j] == 0 for i in lot for j in range(len(talk)) if j not in lot)


def is_right(book, value):
    """Whether a tuple of entries (lot, lot, name, rank) is a right paper, told by [13]."""
    told = {
        (p, q, name) for p, q in lots_apart(book.people) for name in book.names
        if closes(book[name], p) and closes(book[name], q)
    }
    if sorted(entry[:3] for entry in value) != sorted(told):
        return False
    ranks = {entry[:3]: entry[3] for entry in value}
    return all(
        ranks[p, q, then] < ranks[p, q, name]
        for p, q, name in told for first, then in book.steps
        if first == name and (p, q, then) in told
    )


def factor_of(talk):
    """By what differences are multiplied, tried with all numbers that are 0 or 1."""
    rows = shares(talk)
    behind = [
        [sum(share for share, number in zip(row, numbers) if number) for row in rows]
        for numbers in itertools.product((0, 1), repeat=len(talk))
    ]
    return max(max(values) - min(values) for values in behind)
