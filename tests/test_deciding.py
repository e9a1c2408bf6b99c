"""Points [11] and [12]: deciding."""

import unittest

from oracles import all_agree, closes, lots_apart, meeting, rings_with_patterns
from samples import (
    alone, firm, five, free, full, is_plain, led_by, nowhere, pairs, rows_of, small_books, told_books, unchanged,
)
from talkmeans.books import Book
from talkmeans.deciding import agree, rings_of, split, talks_to_meet
from talkmeans.talks import Talk
from talkmeans.ways import apart, done, is_ring

BOOKS = told_books() + small_books(400, 11)


def splits(book, ring):
    """Whether some two lots never meet in this ring."""
    return any(
        all(closes(book[name], lot) for name in ring for lot in lots) for lots in lots_apart(book.people)
    )


class Agree(unittest.TestCase):
    def test_examples(self):
        self.assertIs(agree(pairs()), True)
        self.assertIs(agree(free()), False)
        self.assertIs(agree(book=pairs()), True)

    def test_all_rings_of_many_books(self):
        found = [agree(book) for book in BOOKS]
        for book, told in zip(BOOKS, found):
            self.assertIs(told, all_agree(book), str(book))
        self.assertGreater(found.count(True), 50)
        self.assertGreater(found.count(False), 50)

    def test_one_person(self):
        self.assertIs(agree(alone()), True)
        self.assertIs(agree(Book.read("talk a 1")), True)

    def test_no_endless_row(self):
        self.assertIs(agree(nowhere()), True)
        self.assertIs(agree(Book.read("talk a 1 0, 0 1")), True)

    def test_all_firm(self):
        self.assertIs(agree(firm()), False)
        self.assertIs(agree(Book.read("talk a 1 0, 0 1\nbehind a a")), False)
        # A talk in which all are firm does no harm if it can't come for ever.
        harmless = "talk a 1 0, 0 1\ntalk b 1 1, 0 1\nbehind a b\nbehind b a"
        self.assertIs(agree(Book.read(harmless)), True)

    def test_a_talk_behind_which_nothing_comes_endlessly(self):
        book = Book.read("talk a 1 1, 1 1\ntalk b 1 0, 0 1\nbehind a a\nbehind a b")
        self.assertIs(agree(book), True)
        self.assertIs(agree(book.with_step("b", "b")), False)

    def test_shares_do_not_matter(self):
        for book in small_books(60, 12):
            talks = [(name, Talk([[weight and 1 + weight * (i + 1) for weight in row]
                                  for i, row in enumerate(talk.rows)])) for name, talk in book.talks]
            changed = Book(talks, book.steps)
            self.assertIs(agree(changed), agree(book))
            self.assertEqual(talks_to_meet(changed), talks_to_meet(book))

    def test_only_all_talks_together_lead_all_together(self):
        # Each two neighbours among five meet in one talk; the ring of all talks is the only one that is enough.
        texts = ["1 1 0 0 0, 1 1 0 0 0, 0 0 1 0 0, 0 0 0 1 0, 0 0 0 0 1",
                 "1 0 0 0 0, 0 1 1 0 0, 0 1 1 0 0, 0 0 0 1 0, 0 0 0 0 1",
                 "1 0 0 0 0, 0 1 0 0 0, 0 0 1 1 0, 0 0 1 1 0, 0 0 0 0 1",
                 "1 0 0 0 0, 0 1 0 0 0, 0 0 1 0 0, 0 0 0 1 1, 0 0 0 1 1"]
        talks = [(name, Talk.read(text)) for name, text in zip("abcd", texts)]
        book = Book(talks, [("a", "b"), ("b", "c"), ("c", "d"), ("d", "a")])
        self.assertIs(agree(book), True)
        self.assertEqual(talks_to_meet(book), meeting(book))
        self.assertIs(agree(book.with_step("c", "b")), False)
        self.assertEqual(len(split(book.with_step("c", "b"))[0]), 2)


class Split(unittest.TestCase):
    def check(self, book):
        found = split(book)
        if found is None:
            return None
        self.assertTrue(is_plain(found))
        ring, first, second = found
        self.assertIs(is_ring(book, ring), True)
        for lot in (first, second):
            self.assertGreater(len(lot), 0)
            self.assertEqual(list(lot), sorted(set(lot)))
            self.assertLessEqual(set(lot), set(range(book.people)))
            for name in ring:
                self.assertTrue(closes(book[name], lot))
        self.assertLess(first, second)
        self.assertFalse(set(first) & set(second))
        return len(ring)

    def test_examples(self):
        self.assertIs(split(pairs()), None)
        self.assertEqual(split(free()), (("left",), (0, 1), (2,)))
        self.assertEqual(split(book=free()), split(free()))

    def test_many_books(self):
        lengths = []
        for book in BOOKS:
            rings = [row for row in rows_of(book, len(book.talks)) if is_ring(book, row) and splits(book, row)]
            least = min([len(ring) for ring in rings], default=None)
            self.assertEqual(self.check(book), least, str(book))
            lengths.append(least)
        self.assertGreater(lengths.count(1), 20)
        self.assertGreater(lengths.count(2), 5)

    def test_none_exactly_if_it_agrees(self):
        for book in BOOKS:
            self.assertEqual(split(book) is None, agree(book))

    def test_longest_ring(self):
        names = ("e", "d", "c", "b", "a")
        talks = [(name, Talk.read("1 1 0 0 0, 0 1 0 0 0, 0 0 1 0 0, 0 0 0 1 0, 0 0 1 1 1")) for name in names]
        book = Book(talks, list(zip(names, names[1:] + names[:1])))
        self.assertEqual(self.check(book), 5)

    def test_lots_of_a_shorter_ring_count(self):
        # All of a, b and c close (0,) and (1,), only d and e close (1,) and (2,).
        texts = ["1 0 0, 0 1 0, 1 0 1"] * 3 + ["1 1 0, 0 1 0, 0 0 1"] * 2
        talks = [(name, Talk.read(text)) for name, text in zip("abcde", texts)]
        long_way, short_way = [("a", "b"), ("b", "c"), ("c", "a")], [("d", "e"), ("e", "d")]
        for order in (talks, talks[::-1], talks[2:] + talks[:2]):
            self.assertEqual(self.check(Book(order, long_way)), 3)
            self.assertEqual(self.check(Book(order, long_way + short_way)), 2)
            self.assertEqual(self.check(Book(order, long_way + [("a", "d")])), 3)
            self.assertEqual(self.check(Book(order, long_way + short_way + [("b", "b")])), 1)

    def test_a_short_ring_behind_a_long_one(self):
        text = "talk a 1 0, 0 1\ntalk b 1 0, 0 1\ntalk c 1 0, 0 1\nbehind a b\nbehind b c\nbehind c a\nbehind b a"
        self.assertEqual(self.check(Book.read(text)), 2)
        self.assertEqual(split(Book.read(text + "\nbehind c c")), (("c",), (0,), (1,)))

    def test_edges(self):
        for book in (alone(), nowhere(), Book.read("talk a 1"), Book.read("talk a 1 0, 0 1")):
            self.assertIs(split(book), None)
        self.assertEqual(self.check(firm()), 1)
        self.assertIs(split(full(5)), None)
        self.assertEqual(self.check(full(5).firm([0, 1])), 1)

    def test_numbers_stay_apart(self):
        for book in BOOKS:
            found = split(book)
            if found is not None:
                ring, first, second = found
                numbers = [1 if i in second else 0 for i in range(book.people)]
                behind = done(book, ring * 3).led(numbers)
                self.assertEqual({behind[i] for i in first}, {(0, 1)})
                self.assertEqual({behind[i] for i in second}, {(1, 1)})


class TalksToMeet(unittest.TestCase):
    def test_examples(self):
        self.assertEqual(talks_to_meet(pairs()), 2)
        self.assertIs(talks_to_meet(free()), None)
        self.assertEqual(talks_to_meet(book=led_by()), 1)

    def test_many_books(self):
        found = {}
        for book in BOOKS:
            told = talks_to_meet(book)
            self.assertEqual(told, meeting(book) if all_agree(book) else None, str(book))
            self.assertIn(type(told), (int, type(None)))
            found[told] = book
        self.assertLessEqual({0, 1, 2, 3, 4, None}, set(found))

    def test_all_rows(self):
        for book in told_books() + small_books(40, 13):
            most = talks_to_meet(book)
            if most is not None and most <= 4:
                rows = rows_of(book, 5)
                self.assertTrue(all(not apart(book, row) for row in rows if len(row) >= most))
                if most > 0:
                    self.assertTrue(any(apart(book, row) for row in rows if len(row) == most - 1))

    def test_one_person(self):
        self.assertEqual(talks_to_meet(alone()), 0)
        self.assertEqual(talks_to_meet(Book.read("talk a 1")), 0)

    def test_steps_that_lead_nowhere(self):
        # Behind the only row of two talks 0 and 2 still have nobody in common.
        self.assertEqual(talks_to_meet(nowhere()), 3)
        self.assertEqual(talks_to_meet(Book.read("talk a 1 0, 0 1")), 2)
        self.assertEqual(talks_to_meet(Book.read("talk a 1 1, 0 1")), 1)
        self.assertEqual(talks_to_meet(Book.read("talk a 1 0, 0 1\ntalk b 1 1, 0 1\nbehind a b\nbehind b a")), 2)
        self.assertEqual(talks_to_meet(Book.read("talk a 1 0, 0 1\ntalk b 1 0, 0 1\nbehind b a")), 3)

    def test_within_the_told_bound(self):
        for book in BOOKS + [full(5)]:
            told = talks_to_meet(book)
            if told is not None and book.people > 1:
                self.assertLessEqual(told, (book.people - 1) * (len(book.talks) + 1))

    def test_five_people(self):
        self.assertIs(talks_to_meet(five()), None)
        self.assertIs(talks_to_meet(firm()), None)
        self.assertEqual(talks_to_meet(full(5)), meeting(full(5)))
        chain = "1 1 0 0 0, 0 1 1 0 0, 0 0 1 1 0, 0 0 0 1 1, 0 0 0 0 1"
        self.assertEqual(talks_to_meet(Book.read("talk a " + chain + "\nbehind a a")), 4)


class RingsOf(unittest.TestCase):
    def test_told_books(self):
        self.assertEqual(rings_of(pairs()), (("left", "right"),))
        self.assertEqual(rings_of(free()), (("left",), ("left", "right")))
        self.assertEqual(rings_of(alone()), (("a", "b"), ("b",)))
        self.assertEqual(rings_of(five()), (("a", "b", "c"), ("c",)))
        self.assertEqual(rings_of(nowhere()), ())
        self.assertEqual(rings_of(book=led_by()), (("a",),))

    def test_many_books(self):
        for book in BOOKS:
            told = {tuple(sorted(names)) for names, _, _ in rings_with_patterns(book)}
            self.assertEqual(rings_of(book), tuple(sorted(told)))
            self.assertTrue(is_plain(rings_of(book)))

    def test_names_ascend_whatever_their_order(self):
        book = Book.read("talk b 1\ntalk c 1\ntalk a 1\nbehind b c\nbehind c b\nbehind a a\nbehind a c\nbehind c a")
        self.assertEqual(rings_of(book), (("a",), ("a", "b", "c"), ("a", "c"), ("b", "c")))

    def test_a_talk_that_comes_twice_in_its_ring(self):
        book = Book.read("talk a 1\ntalk b 1\ntalk c 1\nbehind a b\nbehind b a\nbehind b c\nbehind c b")
        self.assertEqual(rings_of(book), (("a", "b"), ("a", "b", "c"), ("b", "c")))

    def test_all_sets(self):
        found = rings_of(full(2))
        self.assertEqual(len(found), 31)
        self.assertEqual(list(found), sorted(set(found)))
        self.assertEqual(found[0], ("abcdef",))
        self.assertEqual(found[-1], ("e",))


class Unchanged(unittest.TestCase):
    def test_books_stay_and_results_too(self):
        for book in told_books() + small_books(20, 14) + [full(5)]:
            with unchanged(self, book):
                for call in (agree, split, talks_to_meet, rings_of):
                    self.assertEqual(call(book), call(book))


if __name__ == "__main__":
    unittest.main()
