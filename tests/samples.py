"""Talks, books and odd values that several tests use."""

import contextlib
import itertools
from fractions import Fraction

from talkmeans.books import Book
from talkmeans.talks import Talk

PAIRS_TEXT = (
    "talk left 1 1 0, 1 1 0, 0 0 1\n"
    "talk right 1 0 0, 0 1 1, 0 1 1\n"
    "behind left right\n"
    "behind right left"
)

FIVE_TEXT = (
    "talk a 1 1 1 1 1, 0 1 1 0 1, 1 2 3 4 5, 0 0 0 1 0, 9 8 7 6 5\n"
    "talk b 1 0 0 0 0, 7 1 0 0 0, 0 7 1 0 0, 0 0 7 1 0, 0 0 0 7 1\n"
    "talk c 3 0 5 0 7, 0 1 0 0 0, 0 0 1 0 0, 0 0 0 1 0, 0 0 0 0 1\n"
    "behind a b\nbehind b c\nbehind c a\nbehind c c"
)


def pairs():
    return Book.read(PAIRS_TEXT)


def five():
    return Book.read(FIVE_TEXT)


def deep(levels):
    """Lists and tuples, one in the other."""
    value = []
    for level in range(levels):
        value = [value] if level % 2 else (value,)
    return value


def odd_values():
    """Values of each kind that conventions [1] call any value at all."""
    book = pairs()
    plain = [0, 1, -1, 10**12, True, False, None, "", "a", "left", "0", "1 1, 1 1", PAIRS_TEXT]
    lists = [[], (), [[]], ((),), [None], (None,), [True], [[1]], [["a"]], ["left"], [("a", "b")]]
    lists += [("p", "q"), (1, 0)]
    own = [book, book["left"], [book], (book["left"],), [("a", book)], [[book["left"]]], ("a", book["left"])]
    return plain + lists + own + [deep(8)]


def no_sequences():
    return [value for value in odd_values() if not isinstance(value, (list, tuple))]


def small_talks():
    """All talks of two people with weights up to 2, and some of three."""
    rows = [[[a, b] for a, b in itertools.product(range(3), repeat=2) if (a, b)[own] > 0] for own in (0, 1)]
    talks = [Talk([first, second]) for first in rows[0] for second in rows[1]]
    texts = ["1 1 0, 1 1 0, 0 0 1", "1 0 0, 0 1 1, 0 1 1", "5 0 3, 2 7 0, 0 0 1"]
    texts += ["1 2 3, 4 5 6, 7 8 9", "1 0 0, 9 1 0, 0 9 1"]
    return talks + [Talk.read(text) for text in texts]


def shares(talk):
    """The shares of a talk as fractions, told by [5]."""
    return [[Fraction(weight, sum(row)) for weight in row] for row in talk.rows]


def times(first, then):
    """The shares behind first and then."""
    many = range(len(first))
    return [[sum(then[i][k] * first[k][j] for k in many) for j in many] for i in many]


def fraction(value):
    return Fraction(*value) if isinstance(value, tuple) else Fraction(value)


def pair(value):
    return (value.numerator, value.denominator)


@contextlib.contextmanager
def raising(case, error, **kept):
    """The rows inside raise just this error, which keeps just these things."""
    with case.assertRaises(error) as caught:
        yield
    case.assertIs(type(caught.exception), error)
    case.assertEqual(vars(caught.exception), kept)
    for name, value in kept.items():
        case.assertIs(type(getattr(caught.exception, name)), type(value))
