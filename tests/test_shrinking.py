"""Point [14]: shrinking."""

import itertools
import random
import unittest

from oracles import factor_of
from samples import (
    alone, firm, five, fraction, free, full, is_plain, led_by, nowhere, pair, pairs, rows_of, shares, small_books,
    small_talks, told_books, unchanged,
)
from talkmeans.books import Book
from talkmeans.shrinking import factor, slow_row, slowest, spread
from talkmeans.talks import Talk
from talkmeans.ways import done, is_row

BOOKS = told_books() + small_books(60, 31)


class Factor(unittest.TestCase):
    def check(self, talk):
        found = factor(talk)
        self.assertTrue(is_plain(found))
        self.assertEqual(found, pair(factor_of(talk)), str(talk))
        return fraction(found)

    def test_examples(self):
        self.assertEqual(factor(pairs()["left"]), (1, 1))
        self.assertEqual(factor(talk=pairs()["right"]), (1, 1))

    def test_told_by_hand(self):
        for text, told in [("1 0, 0 1", (1, 1)), ("1 1, 1 1", (0, 1)), ("1 1, 0 1", (1, 2)), ("2 1, 1 2", (1, 3)),
                           ("3 1, 1 1", (1, 4)), ("1 9, 1 1", (2, 5)), ("1 1 1, 1 1 1, 0 0 1", (2, 3))]:
            self.assertEqual(factor(Talk.read(text)), told)

    def test_definition(self):
        for talk in small_talks() + [talk for book in BOOKS + [full(5), full(3)] for _, talk in book.talks]:
            rows = shares(talk)
            sums = [sum(map(min, one, other)) for one, other in itertools.combinations(rows, 2)]
            self.assertEqual(factor(talk), pair(1 - min(sums)) if sums else (0, 1))

    def test_greatest_difference_that_is_left(self):
        for talk in small_talks() + [talk for book in BOOKS + [full(5)] for _, talk in book.talks]:
            self.check(talk)

    def test_differences_shrink(self):
        rolls = random.Random(32)
        for talk in small_talks() + [talk for _, talk in full(5).talks]:
            for _ in range(10):
                numbers = [(rolls.randint(-99, 99), rolls.randint(1, 9)) for _ in range(len(talk))]
                behind = fraction(spread(talk.led(numbers)))
                self.assertLessEqual(behind, fraction(factor(talk)) * fraction(spread(numbers)))

    def test_one_and_five_people(self):
        self.assertEqual(factor(Talk([[4]])), (0, 1))
        self.assertEqual(factor(Talk([[9] * 5] * 5)), (0, 1))
        self.assertEqual(factor(firm()["a"]), (1, 1))
        self.assertEqual(self.check(five()["a"]), 1)

    def test_large_talks(self):
        talk = done(full(5), ["b", "c", "d", "e", "abcdef"] * 8)
        self.check(talk)
        grown = 10**3999
        wide = Talk([[grown + i * j if i != j else 1 for j in range(5)] for i in range(5)])
        self.check(wide)


class Slowest(unittest.TestCase):
    def test_examples(self):
        self.assertEqual(slowest(pairs(), 2), (1, 2))
        self.assertEqual(slowest(pairs(), 4), (1, 8))
        self.assertEqual(slowest(book=pairs(), k=2), (1, 2))
        self.assertIn(slow_row(book=pairs(), k=2), (("left", "right"), ("right", "left")))

    def check(self, book, k):
        rows = [row for row in rows_of(book, k) if len(row) == k]
        told = max([factor_of(done(book, row)) for row in rows], default=None)
        found, row = slowest(book, k), slow_row(book, k)
        if told is None:
            self.assertIs(found, None)
            self.assertIs(row, None)
            return
        self.assertEqual(found, pair(told))
        self.assertTrue(is_plain(found) and is_plain(row))
        self.assertIs(type(row), tuple)
        self.assertEqual(len(row), k)
        self.assertIs(is_row(book, row), True)
        self.assertEqual(pair(factor_of(done(book, row))), found)

    def test_many_books(self):
        for book in BOOKS:
            for k in range(4):
                self.check(book, k)

    def test_four_talks(self):
        for book in [pairs(), free(), five(), led_by(), nowhere(), full(2)] + small_books(12, 33):
            self.check(book, 4)

    def test_five_people_and_five_talks(self):
        for k in (1, 2):
            self.check(full(5), k)
        self.assertEqual(slowest(full(5), 4), factor(done(full(5), slow_row(full(5), 4))))
        self.assertLess(fraction(slowest(full(5), 4)), fraction(slowest(full(5), 3)))

    def test_no_talk(self):
        for book in BOOKS:
            self.assertEqual(slow_row(book, 0), ())
            self.assertEqual(slowest(book, 0), (1, 1) if book.people > 1 else (0, 1))

    def test_no_such_row(self):
        for k, told in ((1, (1, 1)), (2, (1, 1)), (3, None), (4, None)):
            self.assertEqual(slowest(nowhere(), k), told)
        self.assertEqual(slow_row(nowhere(), 2), ("b", "a"))
        self.assertIs(slow_row(nowhere(), 3), None)
        self.assertIs(slow_row(nowhere(), 4), None)
        self.assertIs(slowest(Book.read("talk a 1"), 2), None)
        self.assertIs(slow_row(Book.read("talk a 1"), 2), None)

    def test_one_person(self):
        for k in range(5):
            self.assertEqual(slowest(alone(), k), (0, 1))
            self.assertEqual(len(slow_row(alone(), k)), k)
            self.assertIs(is_row(alone(), slow_row(alone(), k)), True)

    def test_all_firm(self):
        for k in range(5):
            self.assertEqual(slowest(firm(), k), (1, 1))
            self.assertEqual(len(slow_row(firm(), k)), k)

    def test_the_only_slow_row(self):
        book = Book.read("talk a 1 1, 1 1\ntalk b 3 1, 1 3\ntalk c 2 1, 1 2\nbehind a b\nbehind b c\nbehind c b")
        self.assertEqual(slow_row(book, 1), ("b",))
        self.assertEqual(slowest(book, 1), (1, 2))
        self.assertEqual(slow_row(book, 3), ("b", "c", "b"))
        self.assertEqual(slowest(book, 3), (1, 12))

    def test_somewhat_beyond(self):
        self.assertEqual(slowest(pairs(), 6), (1, 32))
        self.assertEqual(len(slow_row(pairs(), 9)), 9)


class Spread(unittest.TestCase):
    def test_examples(self):
        self.assertEqual(spread([3, (1, 2)]), (5, 2))
        self.assertEqual(spread(numbers=((1, 2), 3)), (5, 2))

    def test_kinds_of_values(self):
        for numbers, told in [([7], (0, 1)), (((1, 3),), (0, 1)), ([-2, 5], (7, 1)), ([5, -2, 0], (7, 1)),
                              ([(2, 4), (1, 2)], (0, 1)), ([(1, 2), (1, 3)], (1, 6)), ([(-1, 2), (1, 2)], (1, 1)),
                              ([(6, 4), 0], (3, 2)), ((0, 0, 0, 0, 0), (0, 1)), ([(3, 3), 1], (0, 1)),
                              ([999999999, (-1, 999999998)], (999999999 * 999999998 + 1, 999999998))]:
            self.assertEqual(spread(numbers), told)
            self.assertTrue(is_plain(spread(numbers)))

    def test_any_two(self):
        rolls = random.Random(34)
        for many in (1, 2, 3, 4, 5, 7):
            for _ in range(20):
                numbers = [(rolls.randint(-9, 9), rolls.randint(1, 9)) for _ in range(many)]
                told = max(abs(fraction(p) - fraction(q)) for p in numbers for q in numbers)
                self.assertEqual(spread(numbers), pair(told))

    def test_returned_values(self):
        behind = done(full(5), ["b", "c", "d", "e"] * 10).led([1, 2, 3, 4, (5, 999999999)])
        self.assertEqual(spread(behind), pair(max(map(fraction, behind)) - min(map(fraction, behind))))


class Unchanged(unittest.TestCase):
    def test_arguments_stay_and_results_too(self):
        numbers = [(2, 4), 3, (-6, 3)]
        for book in told_books() + small_books(10, 35):
            with unchanged(self, book, numbers):
                for k in range(4):
                    self.assertEqual(slowest(book, k), slowest(book, k))
                    self.assertEqual(slow_row(book, k), slow_row(book, k))
                for _, talk in book.talks:
                    self.assertEqual(factor(talk), factor(talk))
                self.assertEqual(spread(numbers), spread(tuple(numbers)))


if __name__ == "__main__":
    unittest.main()
