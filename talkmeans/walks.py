"""Walks along steps: where they lead to, where they end, and how they come back."""


def steps_inside(book, names):
    """For each of these names those of them that can come behind it."""
    return {name: [then for then in book.behind(name) if then in names] for name in names}


def longest(behind):
    """For each place at which no endless walk begins, how many steps the longest walk from it has.

    For each place, behind has the places to which a step leads from there.
    """
    found = {}
    left = list(behind)
    many = 0
    while True:
        ended = [place for place in left if all([then in found for then in behind[place]])]
        if len(ended) == 0:
            return found
        for place in ended:
            found[place] = many
        left = [place for place in left if place not in found]
        many += 1


def lasting(book):
    """The names of the talks behind which endless rows go on."""
    ended = longest(steps_inside(book, book.names))
    return [name for name in book.names if name not in ended]


def goes_round(book, names):
    """Whether these are just the talks of some ring."""
    behind = steps_inside(book, names)
    return all([reached(behind, name) == len(names) for name in names])


def reached(behind, start):
    """To how many places walks of at least one step lead from the start."""
    found = set()
    waiting = [start]
    while len(waiting) > 0:
        place = waiting.pop()
        for then in behind[place]:
            if then not in found:
                found.add(then)
                waiting.append(then)
    return len(found)


def shortest_ring(book, names):
    """A ring with the fewest talks of these names, or None if there is none."""
    behind = steps_inside(book, names)
    rows = [(name,) for name in names]
    # No talk comes twice in one of these rows: the part between would be a shorter ring, found before.
    while len(rows) > 0:
        for row in rows:
            if row[0] in behind[row[-1]]:
                return row
        rows = [row + (then,) for row in rows for then in behind[row[-1]]]
    return None
