"""Points [15] and [16]: ends."""

import itertools
import random
import unittest

from oracles import (
    all_agree, closes, counting, ends_of, kept_by, least_lots_of, pattern, rings_with_patterns, solved,
)
from samples import (
    alone, firm, five, fraction, free, full, is_plain, led_by, no_sequences, nowhere, odd_values, pair, pairs,
    raising, rows_of, shares, small_books, small_talks, told_books, unchanged,
)
from talkmeans.books import Book
from talkmeans.ends import can_count, end, how_counts, least_lots, settled, weights
from talkmeans.errors import InvalidNumbers
from talkmeans.shrinking import spread
from talkmeans.talks import Talk
from talkmeans.ways import done, is_ring

BOOKS = told_books() + small_books(150, 41)
TALKS = small_talks() + [talk for book in BOOKS + [full(2), full(5)] for _, talk in book.talks]

# All of them keep a third of person 0 and two thirds of person 1.
KEEPING = "talk a 1 2, 1 2\ntalk b 1 1, 1 3\ntalk c 1 0, 0 1\ntalk d 3 1, 1 7"


def keeping(steps):
    return Book.read(KEEPING + "".join(f"\nbehind {p} {q}" for p, q in steps))


def both():
    return done(pairs(), ["left", "right"])


class Weights(unittest.TestCase):
    def test_examples(self):
        self.assertEqual(weights(both()), ((1, 3), (1, 3), (1, 3)))
        self.assertIs(weights(pairs()["left"]), None)
        self.assertEqual(weights(talk=led_by()["a"]), ((1, 1), (0, 1)))

    def test_told_by_hand(self):
        for text, told in [("1", ((1, 1),)), ("1 1, 1 1", ((1, 2), (1, 2))), ("1 2, 1 2", ((1, 3), (2, 3))),
                           ("1 1, 1 3", ((1, 3), (2, 3))), ("1 9, 0 1", ((0, 1), (1, 1))), ("1 0, 0 1", None),
                           ("1 1 0, 0 1 1, 1 0 1", ((1, 3), (1, 3), (1, 3))),
                           ("1 1 1, 0 1 2, 0 1 1", ((0, 1), (3, 7), (4, 7))), ("1 0 0, 1 1 1, 0 0 1", None)]:
            self.assertEqual(weights(Talk.read(text)), told)

    def test_many_talks(self):
        found = []
        for talk in TALKS:
            told = weights(talk)
            lots = least_lots_of(pattern(talk))
            self.assertEqual(told is None, len(lots) > 1)
            if told is not None:
                self.assertTrue(is_plain(told))
                self.assertEqual(told, tuple(map(pair, kept_by(talk))))
                self.assertEqual(sum(map(fraction, told)), 1)
                (lot,) = lots
                self.assertEqual({i for i, value in enumerate(told) if fraction(value) > 0}, set(lot))
                self.assertEqual([i for i in range(len(talk)) if told[i] == (0, 1)],
                                 [i for i in range(len(talk)) if i not in lot])
            found.append(told is None)
        self.assertGreater(found.count(True), 50)
        self.assertGreater(found.count(False), 50)

    def test_done_again_and_again(self):
        for talk in TALKS:
            told = weights(talk)
            if told is not None:
                for _ in range(7):
                    talk = talk >> talk
                for row in shares(talk):
                    self.assertLess(max(abs(share - fraction(value)) for share, value in zip(row, told)), 1 / 1000)

    def test_large_talks(self):
        talk = done(full(5), ["b", "c", "d", "e", "abcdef"] * 8)
        self.assertEqual(weights(talk), tuple(map(pair, kept_by(talk))))
        grown = 10**3999
        wide = Talk([[grown + i * j if i != j else 1 for j in range(5)] for i in range(5)])
        self.assertEqual(weights(wide), tuple(map(pair, kept_by(wide))))
        seven = Talk([[1 + i * j for j in range(7)] for i in range(7)])
        self.assertEqual(weights(seven), tuple(map(pair, kept_by(seven))))


class End(unittest.TestCase):
    def test_examples(self):
        self.assertEqual(end(both(), [0, 6, 9]), (5, 1))
        self.assertIs(end(pairs()["left"], [0, 6, 9]), None)
        self.assertEqual(end(talk=both(), numbers=((1, 2), 0, 0)), (1, 6))

    def test_sum_of_weights_times_numbers(self):
        rolls = random.Random(42)
        for talk in TALKS:
            numbers = [(rolls.randint(-9, 9), rolls.randint(1, 9)) for _ in range(len(talk))]
            found = end(talk, numbers)
            if weights(talk) is None:
                self.assertIs(found, None)
            else:
                told = sum(fraction(w) * fraction(value) for w, value in zip(weights(talk), numbers))
                self.assertEqual(found, pair(told))
                self.assertTrue(is_plain(found))
                self.assertEqual(end(talk, talk.led(numbers)), found)

    def test_kinds_of_values(self):
        self.assertEqual(end(Talk([[3]]), [7]), (7, 1))
        self.assertEqual(end(Talk([[3]]), ((6, 4),)), (3, 2))
        self.assertEqual(end(led_by()["a"], [-4, 10**9]), (-4, 1))
        self.assertEqual(end(both(), [(2, 4), (-1, 2), 0]), (0, 1))
        self.assertEqual(end(both(), [999999999, (1, 999999999), (5, 7)]),
                         pair((999999999 + fraction((1, 999999999)) + fraction((5, 7))) / 3))

    def test_no_sequence_of_that_many(self):
        # Also where not all come together.
        for talk in (both(), pairs()["left"]):
            for numbers in no_sequences() + [[], (), [1], [1, 2], (1, 2, 3, 4), {1, 2, 3}, {0: 1}, range(3), "123"]:
                with raising(self, InvalidNumbers, at=0):
                    end(talk, numbers)

    def test_first_thing_that_is_no_value(self):
        wrong = [True, False, None, "1", [1, 2], (1, 0), (1, -2), (1,), (), (1, 2, 3), (True, 1), (1, True), (1, "2")]
        wrong += [value for value in odd_values() if isinstance(value, bool) or not isinstance(value, int)]
        for talk in (both(), pairs()["left"]):
            for value in wrong:
                for at in range(3):
                    numbers = [0, (1, 2), 7]
                    numbers[at:] = [value] * (3 - at)
                    with raising(self, InvalidNumbers, at=at):
                        end(talk, numbers)


class LeastLots(unittest.TestCase):
    def test_told_by_hand(self):
        for text, told in [("1", ((0,),)), ("1 0, 0 1", ((0,), (1,))), ("1 1, 0 1", ((1,),)), ("1 1, 1 1", ((0, 1),)),
                           ("1 1 0, 1 1 0, 0 0 1", ((0, 1), (2,))), ("1 0 1, 1 1 1, 1 0 1", ((0, 2),)),
                           ("1 0 0 0 1, 0 1 1 0 0, 0 1 1 0 0, 1 1 0 1 0, 1 0 0 0 1", ((0, 4), (1, 2)))]:
            self.assertEqual(least_lots(Talk.read(text)), told)
        self.assertEqual(least_lots(talk=firm()["a"]), ((0,), (1,), (2,), (3,), (4,)))

    def test_many_talks(self):
        for talk in TALKS:
            found = least_lots(talk)
            self.assertEqual(found, tuple(sorted(tuple(sorted(lot)) for lot in least_lots_of(pattern(talk)))))
            self.assertTrue(is_plain(found))

    def test_definition(self):
        for talk in TALKS:
            people = range(len(talk))
            lots = [lot for k in range(1, len(talk) + 1) for lot in itertools.combinations(people, k)]
            closed = [lot for lot in lots if closes(talk, lot)]
            least = [lot for lot in closed if not any(set(part) < set(lot) for part in closed)]
            self.assertEqual(least_lots(talk), tuple(sorted(least)))


class CanCount(unittest.TestCase):
    def test_examples(self):
        self.assertEqual(can_count(pairs()), (0, 1, 2))
        self.assertEqual(can_count(book=led_by()), (0,))

    def test_many_books(self):
        found = set()
        for book in BOOKS:
            told = set().union(*[lot for _, heard, _ in rings_with_patterns(book) for lot in least_lots_of(heard)])
            self.assertEqual(can_count(book), tuple(sorted(told)), str(book))
            self.assertTrue(is_plain(can_count(book)))
            found.add(can_count(book))
        self.assertLessEqual({(), (0,), (1,), (0, 1), (0, 2), (0, 1, 2), (1, 2)}, found)

    def test_edges(self):
        self.assertEqual(can_count(alone()), (0,))
        self.assertEqual(can_count(nowhere()), ())
        self.assertEqual(can_count(Book.read("talk a 1")), ())
        self.assertEqual(can_count(firm()), (0, 1, 2, 3, 4))
        self.assertEqual(can_count(full(5).firm([3])), (3,))
        self.assertEqual(can_count(full(5).firm([4, 1])), (1, 4))

    def test_a_ring_of_several_talks(self):
        # In each talk alone only one person counts, in the ring of both all of them do.
        text = "talk a 1 0 0, 1 1 0, 1 0 1\ntalk b 1 1 1, 0 1 0, 0 1 1\ntalk c 1 0 0, 0 1 1, 0 0 1"
        book = Book.read(text + "\nbehind a a")
        self.assertEqual(can_count(book), (0,))
        self.assertEqual(can_count(book.with_step("b", "b")), (0, 1))
        self.assertEqual(can_count(Book.read(text + "\nbehind a c\nbehind b c\nbehind b a")), ())
        ring = Book.read(text + "\nbehind a b\nbehind b c\nbehind c a")
        self.assertEqual(can_count(ring), (0, 1, 2))


class Settled(unittest.TestCase):
    def test_examples(self):
        self.assertEqual(settled(pairs()), ((1, 3), (1, 3), (1, 3)))
        self.assertEqual(settled(led_by()), ((1, 1), (0, 1)))
        self.assertEqual(settled(book=led_by()), settled(led_by()))

    def test_many_books(self):
        kinds = {"none": 0, "some": 0}
        for book in BOOKS + [keeping(["aa", "ab", "ba", "bc", "ca"]), keeping(["dd", "dc", "ca", "ad"])]:
            rings = rings_with_patterns(book)
            if not rings or not all_agree(book):
                self.assertIs(settled(book), None)
                continue
            rows = {row: done(book, row) for row in rows_of(book, len(book.talks))}
            told = ends_of(book, {row: talk for row, talk in rows.items() if is_ring(book, row)}, rows)
            found = settled(book)
            if found is not None:
                self.assertTrue(is_plain(found))
            self.assertEqual(found, tuple(map(pair, min(told))) if len(told) == 1 else None, str(book))
            kinds["none" if found is None else "some"] += 1
        self.assertGreater(kinds["none"], 10)
        self.assertGreater(kinds["some"], 10)

    def test_talks_that_keep_the_same(self):
        third = ((1, 3), (2, 3))
        for steps in (["aa"], ["bb"], ["dd"], ["ab", "ba"], ["ac", "cd", "da"], ["aa", "ab", "bb", "bc", "cd", "dc"]):
            self.assertEqual(settled(keeping(steps)), third)
        # A talk for ever in which all are firm leads nobody.
        self.assertIs(settled(keeping(["aa", "cc"])), None)

    def test_talks_that_are_not_lasting_do_not_count(self):
        text = "talk a 1 1, 1 1\ntalk b 1 0, 9 1\ntalk c 1 2, 0 1\nbehind a a"
        self.assertEqual(settled(Book.read(text)), ((1, 2), (1, 2)))
        self.assertEqual(settled(Book.read(text + "\nbehind a b\nbehind b c")), ((1, 2), (1, 2)))
        self.assertIs(settled(Book.read(text + "\nbehind b a")), None)
        self.assertIs(settled(Book.read(text + "\nbehind b c\nbehind c a")), None)
        self.assertIs(settled(Book.read(text + "\nbehind b b")), None)

    def test_a_talk_that_only_comes_first(self):
        # What comes first is not kept, though each ring alone ends at one place.
        text = "talk a 1 0, 1 1\ntalk b 1 1, 0 1\nbehind a a\nbehind b a"
        self.assertIs(settled(Book.read(text)), None)
        self.assertEqual(settled(Book.read(text).without("b")), ((1, 1), (0, 1)))

    def test_none(self):
        for book in (nowhere(), firm(), free(), Book.read("talk a 1"), Book.read("talk a 1 1, 1 1"),
                     full(5), Book.read("talk a 1 0, 0 1\nbehind a a")):
            self.assertIs(settled(book), None)

    def test_one_and_five_people(self):
        self.assertEqual(settled(alone()), ((1, 1),))
        # In each talk two of five take the mean of both, so the mean of all is kept.
        talks = []
        for k, name in enumerate("abcde"):
            rows = [[1 if i == j or {i, j} == {k, (k + 1) % 5} else 0 for j in range(5)] for i in range(5)]
            talks.append((name, Talk(rows)))
        book = Book(talks, [("a", "b"), ("b", "c"), ("c", "d"), ("d", "e"), ("e", "a"), ("d", "a")])
        self.assertEqual(settled(book), ((1, 5),) * 5)
        self.assertIs(settled(book.with_step("a", "a")), None)
        self.assertIs(settled(book.heeding("c", 0, 1)), None)

    def test_every_row_ends_there(self):
        for book in [pairs(), led_by(), keeping(["ac", "cd", "da", "ab", "bc"])]:
            told = tuple(map(fraction, settled(book)))
            for row in rows_of(book, 12):
                if len(row) == 12:
                    behind = done(book, row).led([int(i == 0) for i in range(book.people)])
                    low, high = min(map(fraction, behind)), max(map(fraction, behind))
                    self.assertTrue(low <= told[0] <= high)
                    self.assertLess(fraction(spread(behind)), 1 / 16)


class HowCounts(unittest.TestCase):
    def test_examples(self):
        self.assertEqual(how_counts(pairs(), 2), "always")
        self.assertEqual(how_counts(led_by(), 1), "never")
        self.assertEqual(how_counts(book=led_by(), i=0), "always")

    def test_many_books(self):
        words = {frozenset([True]): "always", frozenset([False]): "never", frozenset([True, False]): "sometimes"}
        found = []
        for book in BOOKS:
            agreed = rings_with_patterns(book) and all_agree(book)
            for i in range(book.people):
                told = words[frozenset(counting(book, i))] if agreed else None
                self.assertEqual(how_counts(book, i), told, f"{i} in {book}")
                found.append(told)
        for word in ("always", "sometimes", "never", None):
            self.assertGreater(found.count(word), 10, word)

    def test_what_comes_first_makes_it_count(self):
        # With b first, 0 has heard of 1, and behind a everybody has. With a alone, nobody ever hears of 1.
        book = Book.read("talk a 1 0, 1 1\ntalk b 1 1, 0 1\nbehind a a\nbehind b a")
        self.assertEqual((how_counts(book, 0), how_counts(book, 1)), ("always", "sometimes"))
        self.assertEqual(how_counts(book.without("b"), 1), "never")
        self.assertEqual(how_counts(book.with_step("a", "b"), 1), "sometimes")

    def test_it_can_take_long_but_not_for_ever(self):
        text = "talk a 1 0 0, 1 1 0, 0 0 1\ntalk b 1 0 0, 0 1 0, 0 1 1\ntalk c 1 1 1, 0 1 0, 0 0 1"
        book = Book.read(text + "\nbehind a b\nbehind b a")
        self.assertEqual([how_counts(book, i) for i in range(3)], ["always", "never", "never"])
        book = Book.read(text + "\nbehind a b\nbehind b c\nbehind c a")
        self.assertEqual([how_counts(book, i) for i in range(3)], ["always", "always", "always"])
        book = Book.read(text + "\nbehind a b\nbehind b a\nbehind c a")
        self.assertEqual([how_counts(book, i) for i in range(3)], ["always", "sometimes", "sometimes"])

    def test_only_endless_rows_count(self):
        # Everybody hears of 1 in c only, and nothing comes behind c.
        text = "talk a 1 0, 1 1\ntalk c 1 1, 1 1\nbehind a a\nbehind a c"
        self.assertEqual(how_counts(Book.read(text), 1), "never")
        self.assertEqual(how_counts(Book.read(text + "\nbehind c a"), 1), "sometimes")
        # All are firm in c, but nothing comes behind it.
        text = "talk a 1 1, 1 1\ntalk c 1 0, 0 1\nbehind a a\nbehind a c"
        self.assertEqual(how_counts(Book.read(text), 1), "always")

    def test_none(self):
        for book in (nowhere(), firm(), free(), five(), Book.read("talk a 1"), Book.read("talk a 1 1, 1 1")):
            for i in range(book.people):
                self.assertIs(how_counts(book, i), None)

    def test_one_and_five_people(self):
        self.assertEqual(how_counts(alone(), 0), "always")
        self.assertEqual([how_counts(full(5), i) for i in range(5)], ["always"] * 5)
        self.assertEqual([how_counts(full(5).firm([3]), i) for i in range(5)], ["never"] * 3 + ["always", "never"])

    def test_goes_with_settled_and_can_count(self):
        for book in BOOKS:
            told = settled(book)
            for i in range(book.people):
                word = how_counts(book, i)
                if told is not None:
                    self.assertEqual(word, "never" if told[i] == (0, 1) else "always")
                if word in ("always", "sometimes") and book.people > 1:
                    self.assertGreater(len(can_count(book)), 0)
                if i in can_count(book) and word is not None:
                    self.assertNotEqual(word, "never")


class Unchanged(unittest.TestCase):
    def test_arguments_stay_and_results_too(self):
        for book in told_books() + small_books(20, 43) + [full(5)]:
            numbers = [(2 * k, 4) for k in range(book.people)]
            with unchanged(self, book, numbers):
                for call in (can_count, settled):
                    self.assertEqual(call(book), call(book))
                for i in range(book.people):
                    self.assertEqual(how_counts(book, i), how_counts(book, i))
                for _, talk in book.talks:
                    self.assertEqual(weights(talk), weights(talk))
                    self.assertEqual(least_lots(talk), least_lots(talk))
                    self.assertEqual(end(talk, numbers), end(talk, tuple(numbers)))

    def test_arguments_that_are_refused_stay(self):
        for numbers in ([1, None, 3], [[1], 2, 3], [1, 2], [(1, 0), 2, 3]):
            talk = both()
            with unchanged(self, talk, numbers):
                with self.assertRaises(InvalidNumbers):
                    end(talk, numbers)


class Oracle(unittest.TestCase):
    def test_elimination(self):
        self.assertEqual(solved([[fraction(0), fraction(2), fraction(4)], [fraction(1), fraction(1), fraction(5)]], 2),
                         (3, 2))


if __name__ == "__main__":
    unittest.main()
