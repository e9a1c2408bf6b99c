"""Talks, books and odd values that several tests use."""

import contextlib
import itertools
import random
from fractions import Fraction

from talkmeans.books import Book
from talkmeans.desk import Desk
from talkmeans.live import Live
from talkmeans.talks import Talk

PAIRS_TEXT = (
    "talk left 1 1 0, 1 1 0, 0 0 1\n"
    "talk right 1 0 0, 0 1 1, 0 1 1\n"
    "behind left right\n"
    "behind right left"
)

FIVE_TEXT = (
    "talk a 1 1 1 1 1, 0 1 1 0 1, 1 2 3 4 5, 0 0 0 1 0, 9 8 7 6 5\n"
    "talk b 1 0 0 0 0, 7 1 0 0 0, 0 7 1 0 0, 0 0 7 1 0, 0 0 0 7 1\n"
    "talk c 3 0 5 0 7, 0 1 0 0 0, 0 0 1 0 0, 0 0 0 1 0, 0 0 0 0 1\n"
    "behind a b\nbehind b c\nbehind c a\nbehind c c"
)


def pairs():
    return Book.read(PAIRS_TEXT)


def five():
    return Book.read(FIVE_TEXT)


def free():
    return pairs().with_step("left", "left")


def led_by():
    return Book.read("talk a 1 0, 1 1\nbehind a a")


def alone():
    """One person."""
    return Book.read("talk a 1\ntalk b 1\nbehind a b\nbehind b a\nbehind b b")


def nowhere():
    """A book whose steps lead nowhere: no row of more than two talks."""
    return Book.read("talk a 1 0 0, 1 1 0, 0 0 1\ntalk b 1 0 0, 0 1 1, 0 0 1\nbehind b a")


def firm():
    """All are firm in all talks, and all talks can go on."""
    return five().firm([0, 1, 2, 3, 4])


def one_talk():
    """A book of one talk, which does not agree."""
    return Book.read("talk a 1 1 0, 1 1 0, 0 0 1\nbehind a a")


def full(people):
    """Five talks with weights up to 9, each of which can come behind each."""
    names = ("abcdef", "b", "c", "d", "e")
    many = range(people)
    talks = [Talk([[9 if i == j else (3 * i + 5 * j + 7 * k) % 10 for j in many] for i in many]) for k in range(5)]
    return Book(list(zip(names, talks)), [(p, q) for p in names for q in names])


def small_books(many, seed):
    """Books of up to four people and three talks in which few heed each other."""
    rolls = random.Random(seed)
    books = []
    while len(books) < many:
        people, talks = rolls.choice([1, 2, 3, 3, 3, 4]), rolls.choice([1, 2, 2, 3, 3])
        heeding, again, then = rolls.choice([0.2, 0.4]), rolls.choice([0.1, 0.5]), rolls.choice([0.3, 0.6])
        named = []
        for name in ("c", "a", "b")[:talks]:
            rows = [[rolls.randint(1, 3) if i == j or rolls.random() < heeding else 0 for j in range(people)]
                    for i in range(people)]
            named.append((name, Talk(rows)))
        names = [name for name, _ in named]
        steps = [(p, q) for p in names for q in names if rolls.random() < (again if p == q else then)]
        books.append(Book(named, steps))
    return books


def told_books():
    """The books of the document and those at the edges."""
    return [pairs(), free(), led_by(), alone(), nowhere(), firm(), five(), one_talk(), Book.read("talk a 1")]


def deep(levels):
    """Lists and tuples, one in the other."""
    value = []
    for level in range(levels):
        value = [value] if level % 2 else (value,)
    return value


def odd_values():
    """Values of each kind that conventions [1] call any value at all."""
    book = pairs()
    plain = [0, 1, -1, 10**12, True, False, None, "", "a", "left", "0", "1 1, 1 1", PAIRS_TEXT]
    lists = [[], (), [[]], ((),), [None], (None,), [True], [[1]], [["a"]], ["left"], [("a", "b")]]
    lists += [("p", "q"), (1, 0)]
    own = [book, book["left"], [book], (book["left"],), [("a", book)], [[book["left"]]], ("a", book["left"])]
    own += [Live(book, [0, 6, 9]), Desk(), [Live(book, [0, 6, 9])], (Desk(), "left")]
    return plain + lists + own + [deep(8)]


def no_sequences():
    return [value for value in odd_values() if not isinstance(value, (list, tuple))]


def small_talks():
    """All talks of two people with weights up to 2, and some of three."""
    rows = [[[a, b] for a, b in itertools.product(range(3), repeat=2) if (a, b)[own] > 0] for own in (0, 1)]
    talks = [Talk([first, second]) for first in rows[0] for second in rows[1]]
    texts = ["1 1 0, 1 1 0, 0 0 1", "1 0 0, 0 1 1, 0 1 1", "5 0 3, 2 7 0, 0 0 1"]
    texts += ["1 2 3, 4 5 6, 7 8 9", "1 0 0, 9 1 0, 0 9 1"]
    return talks + [Talk.read(text) for text in texts]


def rows_of(book, most):
    """All rows of at most so many talks, shorter ones first."""
    layers = [[()], [(name,) for name in book.names]]
    while len(layers) <= most:
        layers.append([row + (then,) for row in layers[-1] for first, then in book.steps if first == row[-1]])
    return [row for layer in layers[:most + 1] for row in layer]


def shares(talk):
    """The shares of a talk as fractions, told by [5]."""
    return [[Fraction(weight, sum(row)) for weight in row] for row in talk.rows]


def times(first, then):
    """The shares behind first and then."""
    many = range(len(first))
    return [[sum(then[i][k] * first[k][j] for k in many) for j in many] for i in many]


def fraction(value):
    return Fraction(*value) if isinstance(value, tuple) else Fraction(value)


def pair(value):
    return (value.numerator, value.denominator)


@contextlib.contextmanager
def raising(case, error, **kept):
    """The rows inside raise just this error, which keeps just these things."""
    with case.assertRaises(error) as caught:
        yield
    case.assertIs(type(caught.exception), error)
    case.assertEqual(vars(caught.exception), kept)
    for name, value in kept.items():
        case.assertIs(type(getattr(caught.exception, name)), type(value))


def snapshot(thing):
    """All that a thing holds, so that it can be seen whether it changes."""
    if isinstance(thing, (Book, Talk, Live, Desk)):
        return (type(thing).__name__, snapshot(vars(thing)))
    if isinstance(thing, (list, tuple)):
        return (type(thing).__name__, [snapshot(part) for part in thing])
    if isinstance(thing, dict):
        return ("dict", [(key, snapshot(part)) for key, part in thing.items()])
    return (type(thing).__name__, thing)


@contextlib.contextmanager
def unchanged(case, *things):
    """The rows inside change none of these things."""
    ahead = [snapshot(thing) for thing in things]
    yield
    case.assertEqual([snapshot(thing) for thing in things], ahead)


def is_plain(value):
    """Whether this is made of nothing but integers, strings and tuples."""
    if type(value) is tuple:
        return all(is_plain(part) for part in value)
    return type(value) in (int, str)
