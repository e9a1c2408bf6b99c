"""Point [18]: told back."""

import itertools
import random
import unittest
from fractions import Fraction

from oracles import least_lots_of, rings_with_patterns
from samples import (
    alone, firm, five, fraction, free, full, is_plain, led_by, no_sequences, nowhere, odd_values, one_talk, pair, pairs,
    raising, rows_of, shares, small_books, small_talks, snapshot, times, told_books, unchanged,
)
from talkmeans.books import Book
from talkmeans.errors import InvalidNumbers, InvalidRow
from talkmeans.kinds import is_value
from talkmeans.talks import Talk
from talkmeans.telling import alike, first_of, swaps, told_back
from talkmeans.ways import done, led

BOOKS = told_books() + small_books(120, 51)
WIDE = Book.read(
    "talk a 9 9 9 9 9, 9 8 9 9 8, 9 9 9 2 7, 9 9 1 7 7, 9 9 7 7 5\n"
    "talk b 9 8 7 6 5, 1 2 3 4 5, 0 0 1 9 9, 9 9 0 7 1, 3 4 0 5 1\n"
    "behind a b\nbehind b a\nbehind b b"
)


def rank(rows):
    """How many of the rows of fractions are left by elimination."""
    rows, found = [list(row) for row in rows], 0
    for column in range(len(rows)):
        chosen = next((row for row in rows if row[column] != 0), None)
        if chosen is not None:
            rows.remove(chosen)
            rows = [[a - row[column] / chosen[column] * b for a, b in zip(row, chosen)] for row in rows]
            found += 1
    return found


def turned(book):
    """All pairs of names of talks that do the same in both orders, found with shares."""
    rows = {name: shares(talk) for name, talk in book.talks}
    both = itertools.combinations(sorted(rows), 2)
    return tuple((p, q) for p, q in both if times(rows[p], rows[q]) == times(rows[q], rows[p]))


def least_by_names(book):
    return {names: least_lots_of(heard) for names, heard, _ in rings_with_patterns(book)}


class ToldBack(unittest.TestCase):
    def check(self, talk, numbers):
        found = told_back(talk, numbers)
        if rank(shares(talk)) < len(talk):
            self.assertIs(found, None)
            return
        self.assertIs(type(found), tuple)
        self.assertTrue(is_plain(found))
        self.assertEqual(found, tuple(pair(fraction(value)) for value in found))
        # As all rows count, there is no other tuple that leads there.
        self.assertEqual(talk.led(found), tuple(pair(fraction(value)) for value in numbers))

    def test_examples(self):
        self.assertIs(told_back(pairs()["left"], [3, 3, 9]), None)
        self.assertEqual(told_back(Book.read("talk a 2 1, 0 1")["a"], [1, 5]), ((-1, 1), (5, 1)))
        self.assertEqual(told_back(talk=Talk.read("2 1, 0 1"), numbers=[1, 5]), ((-1, 1), (5, 1)))

    def test_many_talks(self):
        rolls = random.Random(52)
        talks = small_talks() + [talk for book in BOOKS + [WIDE, full(5)] for _, talk in book.talks]
        ranks = {rank(shares(talk)) == len(talk) for talk in talks}
        self.assertEqual(ranks, {True, False})
        for talk in talks:
            self.check(talk, [rolls.randint(-9, 9) for _ in range(len(talk))])
            self.check(talk, tuple((rolls.randint(-99, 99), rolls.randint(1, 9)) for _ in range(len(talk))))

    def test_there_and_back(self):
        first = [(-7, 3), 0, (999999999, 999999998), 5, (4, 6)]
        for name in ("a", "b"):
            self.assertEqual(told_back(WIDE[name], WIDE[name].led(first)),
                             ((-7, 3), (0, 1), (999999999, 999999998), (5, 1), (2, 3)))

    def test_told_by_hand(self):
        # The determinant is above 0, or below 0, or the rows must change places.
        self.assertEqual(told_back(Talk.read("3 1, 1 1"), [(5, 2), 3]), ((2, 1), (4, 1)))
        self.assertEqual(told_back(Talk.read("1 3, 1 1"), [(7, 2), 3]), ((2, 1), (4, 1)))
        self.assertEqual(told_back(Talk.read("1 1 0, 1 1 2, 0 1 1"), [3, 6, (15, 2)]), ((0, 1), (6, 1), (9, 1)))
        self.assertEqual(told_back(Talk.read("1 0, 0 1"), [(2, 4), -6]), ((1, 2), (-6, 1)))

    def test_not_just_one(self):
        # Many tuples lead to the first numbers, and none to the second ones.
        for numbers in ([3, 3, 9], [3, 4, 9]):
            self.assertIs(told_back(pairs()["left"], numbers), None)
        self.assertIs(told_back(Talk.read("1 2 3, 4 5 6, 7 8 9"), [0, 0, 0]), None)
        self.assertIs(told_back(Talk.read("1 2 3, 4 5 6, 7 8 9"), [1, 0, 0]), None)

    def test_one_person(self):
        self.assertEqual(told_back(Talk.read("7"), [(-6, 4)]), ((-3, 2),))

    def test_large_talks(self):
        grown = 10**3999
        wide = Talk([[grown + i * j if i != j else 1 for j in range(5)] for i in range(5)])
        first = ((1, 2), (-3, 1), (5, 7), (0, 1), (10**50, 3))
        self.assertEqual(told_back(wide, wide.led(first)), first)

    def test_somewhat_more_people(self):
        talk = Talk([[9 + 5 * i if i == j else (i * j) % 4 for j in range(7)] for i in range(7)])
        first = tuple((i * i - 20, 1) for i in range(7))
        self.assertEqual(told_back(talk, talk.led(first)), first)

    def test_invalid_numbers(self):
        talk = pairs()["left"]
        for wrong in no_sequences() + [[], [1, 2], (1, 2, 3, 4), "abc"]:
            with raising(self, InvalidNumbers, at=0):
                told_back(talk, wrong)
        for wrong in odd_values():
            if not is_value(wrong):
                for at in range(3):
                    numbers = [0, 1, 2]
                    numbers[at] = wrong
                    with unchanged(self, numbers):
                        with raising(self, InvalidNumbers, at=at):
                            told_back(talk, numbers)
        with raising(self, InvalidNumbers, at=1):
            told_back(talk, [1, True, None])


class FirstOf(unittest.TestCase):
    def test_examples(self):
        self.assertIs(first_of(pairs(), ["left", "right"], [3, 6, 6]), None)
        self.assertEqual(first_of(book=led_by(), row=["a", "a"], numbers=[1, 2]), ((1, 1), (5, 1)))

    def test_one_talk_after_the_other(self):
        rolls = random.Random(53)
        outcomes = set()
        for book in BOOKS + [WIDE]:
            for row in rows_of(book, 3)[:40]:
                numbers = tuple((rolls.randint(-99, 99), rolls.randint(1, 9)) for _ in range(book.people))
                told = told_back(Talk.read(", ".join(
                    " ".join(str(int(i == j)) for j in range(book.people)) for i in range(book.people))), numbers)
                for name in reversed(row):
                    told = None if told is None else told_back(book[name], told)
                found = first_of(book, row, numbers)
                self.assertEqual(found, told)
                self.assertEqual(found is not None, rank(shares(done(book, row))) == book.people)
                self.assertTrue(found is None or is_plain(found))
                outcomes.add((len(row), found is None))
        self.assertEqual(outcomes, {(0, False)} | {(k, none) for k in (1, 2, 3) for none in (True, False)})

    def test_there_and_back(self):
        first = ((-7, 3), (0, 1), (999999999, 999999998), (5, 1), (2, 3))
        for row in (["a"], ["b", "b", "a"], ["b", "a"] * 20):
            self.assertEqual(first_of(WIDE, row, led(WIDE, row, first)[-1]), first)

    def test_row_of_no_talks(self):
        for book in BOOKS:
            numbers = [(2 * i, 4) for i in range(book.people)]
            self.assertEqual(first_of(book, (), numbers), tuple(pair(Fraction(i, 2)) for i in range(book.people)))
        self.assertEqual(first_of(pairs(), [], [3, (6, 4), -1]), ((3, 1), (3, 2), (-1, 1)))

    def test_a_talk_that_cannot_be_told_back(self):
        book = Book.read("talk a 2 1, 0 1\ntalk b 1 1, 1 1\nbehind a b\nbehind b a\nbehind a a")
        for row in (["b"], ["a", "b"], ["b", "a"], ["a", "a", "b", "a"]):
            self.assertIs(first_of(book, row, led(book, row, [1, 2])[-1]), None)
        self.assertEqual(first_of(book, ["a", "a"], [1, 5]), ((-4, 1), (5, 1)))

    def test_one_person(self):
        self.assertEqual(first_of(alone(), ["a", "b", "b"], [(9, 6)]), ((3, 2),))

    def test_invalid_row(self):
        book = pairs()
        for wrong in no_sequences():
            with raising(self, InvalidRow, at=0):
                first_of(book, wrong, [1, 2, 3])
        for wrong in odd_values() + ["right", "up"]:
            if wrong != "left":
                with unchanged(self, wrong):
                    with raising(self, InvalidRow, at=2):
                        first_of(book, ["left", "right", wrong], [1, 2, 3])
        with raising(self, InvalidRow, at=1):
            first_of(book, ("left", "left", "up"), [1, 2, 3])

    def test_invalid_row_comes_first(self):
        for wrong in odd_values():
            with raising(self, InvalidRow, at=1):
                first_of(pairs(), ["left", "left"], wrong)

    def test_invalid_numbers(self):
        for wrong in no_sequences() + [[], [1, 2], (1, 2, 3, 4)]:
            for row in ([], ["left", "right"]):
                with raising(self, InvalidNumbers, at=0):
                    first_of(pairs(), row, wrong)
        for wrong in odd_values():
            if not is_value(wrong):
                with unchanged(self, wrong):
                    with raising(self, InvalidNumbers, at=2):
                        first_of(pairs(), ["right"], [0, (1, 2), wrong])


class Swaps(unittest.TestCase):
    def check(self, book):
        found = swaps(book)
        self.assertEqual(found, turned(book), str(book))
        self.assertIs(type(found), tuple)
        self.assertTrue(is_plain(found))
        return found

    def test_examples(self):
        self.assertEqual(swaps(pairs()), ())
        self.assertEqual(swaps(book=pairs()), ())

    def test_many_books(self):
        counts = {len(self.check(book)) for book in BOOKS + [full(2), full(5), WIDE]}
        self.assertLessEqual({0, 1, 3}, counts)

    def test_steps_do_not_matter(self):
        text = "talk b 1 1 0 0, 1 1 0 0, 0 0 1 0, 0 0 0 1\ntalk a 1 0 0 0, 0 1 0 0, 0 0 1 5, 0 0 2 1"
        for steps in ("", "\nbehind a b", "\nbehind b a", "\nbehind a a"):
            self.assertEqual(self.check(Book.read(text + steps)), (("a", "b"),))

    def test_same_pattern_is_not_enough(self):
        self.assertEqual(self.check(Book.read("talk a 1 1, 1 1\ntalk b 1 2, 1 1")), ())
        self.assertEqual(self.check(Book.read("talk a 1 2, 1 1\ntalk b 2 4, 3 3")), (("a", "b"),))
        self.assertEqual(self.check(Book.read("talk a 1 1, 1 1\ntalk b 1 2, 2 1")), (("a", "b"),))

    def test_five_people_and_five_talks(self):
        talks = [(name, Talk.read("1 1 0 0 0, 0 1 1 0 0, 1 0 1 0 0, 0 0 0 1 1, 0 0 0 1 1")) for name in "caebd"]
        self.assertEqual(self.check(Book(talks)), tuple(itertools.combinations("abcde", 2)))
        self.check(full(5))

    def test_one_person_and_one_talk(self):
        self.assertEqual(swaps(alone()), (("a", "b"),))
        self.assertEqual(swaps(one_talk()), ())


class Alike(unittest.TestCase):
    def check(self, p, q):
        found = alike(p, q)
        self.assertIs(found, least_by_names(p) == least_by_names(q), f"{p}\n\n{q}")
        self.assertIs(alike(q, p), found)
        return found

    def test_named_parameters(self):
        self.assertIs(alike(p=pairs(), q=pairs()), True)
        self.assertIs(alike(p=pairs(), q=free()), False)

    def test_many_books(self):
        outcomes = set()
        for people in range(1, 6):
            books = [book for book in BOOKS + [full(people)] if book.people == people][:40]
            for p, q in itertools.combinations_with_replacement(books, 2):
                outcomes.add((p == q, self.check(p, q)))
        self.assertEqual(outcomes, {(True, True), (False, True), (False, False)})

    def test_weights_do_not_matter(self):
        other = Book.read("talk right 1 0 0, 0 3 1, 0 2 9\ntalk left 7 1 0, 1 5 0, 0 0 4\nbehind left right\nbehind right left")
        self.assertIs(self.check(pairs(), other), True)

    def test_least_lots_matter_and_nothing_else(self):
        # Who heeds whom is another thing in each talk, but the least closed lots are the same.
        p = Book.read("talk a 1 1 0, 1 1 0, 0 1 1\nbehind a a")
        q = Book.read("talk a 1 1 0, 1 1 0, 1 0 1\nbehind a a")
        r = Book.read("talk a 1 1 0, 0 1 0, 0 1 1\nbehind a a")
        self.assertIs(self.check(p, q), True)
        self.assertIs(self.check(p, r), False)

    def test_talks_beside_rings_do_not_matter(self):
        p = Book.read("talk a 1 1, 1 1\ntalk b 1 0, 0 1\nbehind a a\nbehind a b")
        q = Book.read("talk a 1 1, 1 1\ntalk c 1 0, 1 1\nbehind c a\nbehind a a")
        self.assertIs(self.check(p, q), True)
        self.assertIs(self.check(p, p.with_step("b", "b")), False)
        self.assertIs(self.check(p, p.with_step("b", "a")), False)

    def test_all_sets_count(self):
        talks = "talk a 1 1, 1 1\ntalk b 1 1, 1 1\n"
        p = Book.read(talks + "behind a b\nbehind b a")
        self.assertIs(self.check(p, p.with_step("a", "a")), False)
        self.assertIs(self.check(p.with_step("a", "a"), p.with_step("b", "b")), False)

    def test_both_agree_or_both_do_not(self):
        self.assertIs(self.check(firm(), firm()), True)
        self.assertIs(self.check(firm(), five()), False)

    def test_no_rings(self):
        self.assertIs(alike(nowhere(), Book.read("talk z 1 1 1, 1 1 1, 1 1 1")), True)
        self.assertIs(alike(nowhere(), pairs()), False)

    def test_one_person(self):
        self.assertIs(alike(alone(), alone()), True)
        self.assertIs(alike(alone(), Book.read("talk a 1")), False)


class NothingChanges(unittest.TestCase):
    def test_talks_books_and_numbers_stay(self):
        book, row, numbers = led_by(), ["a", "a"], [1, (4, 2)]
        calls = [
            lambda: told_back(book["a"], numbers), lambda: first_of(book, row, numbers),
            lambda: swaps(book), lambda: alike(book, book),
        ]
        with unchanged(self, book, row, numbers):
            first = [call() for call in calls]
            self.assertEqual(snapshot([call() for call in calls]), snapshot(first))


if __name__ == "__main__":
    unittest.main()
