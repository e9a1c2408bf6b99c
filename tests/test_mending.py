"""Point [17]: mending."""

import itertools
import unittest

from oracles import all_agree
from samples import (
    alone, firm, five, free, full, is_plain, led_by, nowhere, one_talk, pairs, small_books, snapshot, told_books,
    unchanged,
)
from talkmeans.books import Book
from talkmeans.deciding import agree
from talkmeans.mending import adds, stoppers, strikes
from talkmeans.talks import Talk

BOOKS = told_books() + small_books(250, 41)


def parts(things, most):
    """All parts of at most so many of some things, shorter ones first, then ascending."""
    return [part for k in range(most + 1) for part in itertools.combinations(sorted(things), k)]


def least(found):
    """Those of the parts that contain no other one."""
    return tuple(part for part in found if not any(set(other) < set(part) for other in found))


def struck(book, names):
    """The book without some talks, made anew."""
    talks = [(name, talk) for name, talk in book.talks if name not in names]
    return Book(talks, [step for step in book.steps if not set(step) & set(names)])


def more_heeded(book, name, i, j):
    """The book in which i heeds j in this talk, made anew."""
    rows = [list(row) for row in book[name].rows]
    rows[i][j] += 7
    return Book([(word, Talk(rows) if word == name else talk) for word, talk in book.talks], book.steps)


def made_firm(book, lot):
    """The book in which the people of a lot are firm, made anew."""
    talks = []
    for name, talk in book.talks:
        rows = [[5 * (j == i) for j in range(len(talk))] if i in lot else row for i, row in enumerate(talk.rows)]
        talks.append((name, Talk(rows)))
    return Book(talks, book.steps)


class Strikes(unittest.TestCase):
    def check(self, book):
        found = strikes(book)
        told = least([names for names in parts(book.names, len(book.names) - 1) if all_agree(struck(book, names))])
        self.assertEqual(found, told, str(book))
        self.assertIs(type(found), tuple)
        self.assertTrue(is_plain(found))
        return found

    def test_examples(self):
        self.assertEqual(strikes(free()), (("left",),))
        self.assertEqual(strikes(book=pairs()), ((),))

    def test_many_books(self):
        lengths = {len(names) for book in BOOKS for names in self.check(book)}
        self.assertEqual(lengths, {0, 1, 2})

    def test_every_ring_alone(self):
        book = firm()
        # The rings are c, and a b c.
        self.assertEqual(self.check(book), (("c",),))
        one = Talk.read("1 0, 0 1")
        loops = Book([(name, one) for name in "edcba"], [(name, name) for name in "abcde"])
        self.assertEqual(self.check(loops), ())
        some = Book(loops.talks, [("a", "a"), ("b", "e"), ("e", "b"), ("d", "c"), ("c", "d")])
        self.assertEqual(self.check(some), tuple(itertools.product("a", "b", "cd"))[:2] + (
            ("a", "c", "e"), ("a", "d", "e")))

    def test_four_of_five(self):
        one, mixed = Talk.read("1 0, 0 1"), Talk.read("1 1, 1 1")
        book = Book([("z", one), ("y", one), ("x", mixed), ("w", one), ("v", one)],
                    [(name, name) for name in "vwxyz"])
        self.assertEqual(self.check(book), (("v", "w", "y", "z"),))

    def test_shorter_ones_come_first(self):
        one, mixed = Talk.read("1 0, 0 1"), Talk.read("1 1, 1 1")
        # The rings without agreement are b, and those of a, b and c that leave out d.
        steps = [("a", "z"), ("z", "a"), ("z", "b"), ("b", "z")]
        book = Book([("z", one), ("a", one), ("b", one), ("m", mixed)], steps)
        self.assertEqual(self.check(book), (("z",), ("a", "b")))

    def test_never_all_talks(self):
        self.assertEqual(strikes(one_talk()), ())
        self.assertEqual(strikes(one_talk().firm([0])), ())

    def test_book_of_one_talk(self):
        self.assertEqual(strikes(led_by()), ((),))
        self.assertEqual(strikes(Book.read("talk a 1")), ((),))
        self.assertEqual(strikes(Book.read("talk a 1 0, 0 1")), ((),))

    def test_one_and_five_people(self):
        self.assertEqual(self.check(alone()), ((),))
        self.assertEqual(self.check(five()), (("c",),))
        for people in (1, 2, 5):
            self.assertEqual(self.check(full(people)), ((),))


class Adds(unittest.TestCase):
    def check(self, book):
        found = adds(book)
        changes = [
            (name, i, j) for name in sorted(book.names) for i in range(book.people) for j in range(book.people)
            if book[name].rows[i][j] == 0
        ]
        told = () if all_agree(book) else tuple(
            change for change in changes if all_agree(more_heeded(book, *change)))
        self.assertEqual(found, told, str(book))
        self.assertIs(type(found), tuple)
        self.assertTrue(is_plain(found))
        return found

    def test_examples(self):
        self.assertEqual(adds(free()), (("left", 0, 2), ("left", 1, 2), ("left", 2, 0), ("left", 2, 1)))
        self.assertEqual(adds(book=pairs()), ())

    def test_many_books(self):
        counts = {len(self.check(book)) for book in BOOKS}
        self.assertIn(0, counts)
        self.assertGreater(len(counts), 3)

    def test_empty_if_it_agrees(self):
        for book in (pairs(), led_by(), alone(), nowhere(), full(5)):
            self.assertEqual(adds(book), ())

    def test_empty_if_one_is_too_few(self):
        self.assertEqual(adds(firm()), ())
        self.assertEqual(adds(five()), ())
        self.assertEqual(adds(Book.read("talk a 1 0, 0 1\ntalk b 1 0, 0 1\nbehind a a\nbehind b b")), ())

    def test_names_ascending(self):
        book = Book.read("talk b 1 0, 0 1\ntalk a 1 0, 0 1\nbehind a b\nbehind b a")
        self.assertEqual(self.check(book), (("a", 0, 1), ("a", 1, 0), ("b", 0, 1), ("b", 1, 0)))

    def test_only_who_is_not_heeded(self):
        self.assertEqual(self.check(one_talk()), (("a", 0, 2), ("a", 1, 2), ("a", 2, 0), ("a", 2, 1)))

    def test_five_people_and_five_talks(self):
        talks = [(name, Talk.read("1 1 0 0 0, 0 1 1 0 0, 1 0 1 0 0, 0 0 0 1 1, 0 0 0 1 1")) for name in "caebd"]
        ring = Book(talks, [("a", "b"), ("b", "c"), ("c", "d"), ("d", "e"), ("e", "a")])
        # Whichever of the lots 0 1 2 and 3 4 opens in one of the talks, there is just one that stays closed.
        self.assertEqual(len(self.check(ring)), 5 * 12)
        self.assertEqual(self.check(Book(talks, [(p, q) for p in "abcde" for q in "abcde"])), ())
        self.assertEqual(adds(full(5)), ())


class Stoppers(unittest.TestCase):
    def check(self, book):
        found = stoppers(book)
        # All lots are tried, so that it shows that those of two are enough.
        lots = [lot for lot in parts(range(book.people), book.people) if not all_agree(made_firm(book, lot))]
        self.assertEqual(found, least(lots), str(book))
        self.assertIs(type(found), tuple)
        self.assertTrue(is_plain(found))
        return found

    def test_examples(self):
        self.assertEqual(stoppers(pairs()), ((0, 1), (0, 2), (1, 2)))
        self.assertEqual(stoppers(book=free()), ((),))

    def test_many_books(self):
        lengths = {len(lot) for book in BOOKS for lot in self.check(book)}
        self.assertEqual(lengths, {0, 1, 2})

    def test_shorter_ones_come_first(self):
        self.assertEqual(self.check(led_by()), ((1,),))
        chain = Book.read("talk a 1 0 0 0, 1 1 0 0, 1 0 1 1, 0 0 1 1\nbehind a a")
        self.assertEqual(self.check(chain), ((1,), (2,), (3,)))
        both = Book.read("talk a 1 1 0 0, 1 1 0 0, 1 0 1 0, 0 1 0 1\nbehind a a")
        self.assertEqual(self.check(both), ((2,), (3,), (0, 1)))

    def test_no_ring(self):
        self.assertEqual(stoppers(nowhere()), ())
        self.assertEqual(stoppers(Book.read("talk a 1 1, 1 1")), ())

    def test_one_and_five_people(self):
        self.assertEqual(stoppers(alone()), ())
        self.assertEqual(stoppers(Book.read("talk a 1\nbehind a a")), ())
        self.assertEqual(stoppers(full(5)), tuple(itertools.combinations(range(5), 2)))
        self.check(five())
        self.assertEqual(stoppers(firm()), ((),))


class NothingChanges(unittest.TestCase):
    def test_books_stay(self):
        for book in (pairs(), free(), five(), alone(), nowhere()):
            for call in (strikes, adds, stoppers):
                with unchanged(self, book):
                    first = call(book)
                    agree(book)
                    self.assertEqual(snapshot(call(book)), snapshot(first))


if __name__ == "__main__":
    unittest.main()
