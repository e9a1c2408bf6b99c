"""Point [10]: rows of talks."""

import itertools
import unittest

from samples import fraction, five, no_sequences, odd_values, pair, pairs, raising, rows_of, shares, times
from talkmeans.books import Book
from talkmeans.errors import InvalidNumbers, InvalidRow
from talkmeans.talks import Talk
from talkmeans.ways import apart, done, is_ring, is_row, led


class Rows(unittest.TestCase):
    def test_all_short_rows(self):
        for book in (pairs(), five(), pairs().with_step("left", "left")):
            rows = rows_of(book, 4)
            for k in range(5):
                for names in itertools.product(book.names, repeat=k):
                    self.assertIs(is_row(book, names), names in rows)
                    self.assertIs(is_row(book, list(names)), names in rows)
                    ring = names in rows and k > 0 and (names[-1], names[0]) in book.steps
                    self.assertIs(is_ring(book, names), ring)
                    self.assertIs(is_ring(book, list(names)), ring)

    def test_empty_and_single(self):
        book = pairs()
        self.assertIs(is_row(book, []), True)
        self.assertIs(is_row(book, ()), True)
        self.assertIs(is_ring(book, []), False)
        self.assertIs(is_ring(book, ()), False)
        self.assertIs(is_row(book, ["left"]), True)
        self.assertIs(is_ring(book, ["left"]), False)
        self.assertIs(is_ring(book.with_step("left", "left"), ["left"]), True)
        self.assertIs(is_ring(book=book, value=["left", "right"]), True)
        self.assertIs(is_row(book=book, value=["left", "left"]), False)

    def test_long_rows(self):
        book = pairs()
        self.assertIs(is_ring(book, ["left", "right"] * 20), True)
        self.assertIs(is_ring(book, ["left", "right"] * 20 + ["left"]), False)
        self.assertIs(is_row(book, ["left", "right"] * 20 + ["left"]), True)

    def test_any_value_at_all(self):
        book = pairs()
        for value in odd_values() + ["right", {"left": 1}, {"left"}, ("left", None), ["left", ["right"]]]:
            told = value in ([], (), ["left"])
            self.assertIs(is_row(book, value), told)
            self.assertIs(is_ring(book, value), False)
        self.assertIs(is_row(book, ["nobody"]), False)


class Done(unittest.TestCase):
    def test_example(self):
        book = pairs()
        self.assertEqual(str(done(book, ["left", "right"])), "1 1 0, 1 1 2, 1 1 2")
        self.assertEqual(led(book, ["left", "right"], [0, 6, 9]), (((3, 1), (3, 1), (9, 1)), ((3, 1), (6, 1), (6, 1))))
        self.assertEqual(apart(book, ["left"]), ((0, 2), (1, 2)))
        self.assertEqual(apart(book, ["right", "left"]), ())

    def test_all_short_rows(self):
        for book in (pairs(), five(), five().firm([0, 3])):
            many = book.people
            for row in rows_of(book, 5):
                told = [[fraction(int(i == j)) for j in range(many)] for i in range(many)]
                for name in row:
                    told = times(told, shares(book[name]))
                talk = done(book, list(row))
                self.assertEqual(shares(talk), told)
                self.assertEqual(talk.rows, Talk(talk.rows).rows)
                heard = [{j for j in range(many) if told[i][j] > 0} for i in range(many)]
                pairs_apart = [(i, j) for i, j in itertools.combinations(range(many), 2) if not heard[i] & heard[j]]
                self.assertEqual(apart(book, row), tuple(pairs_apart))

    def test_led_talk_by_talk(self):
        numbers = [(3, 6), -4, 0, (7, 3), 999999999]
        for row in rows_of(five(), 4):
            now = [fraction(value) for value in numbers]
            told = []
            for name in row:
                now = [sum(s * v for s, v in zip(line, now)) for line in shares(five()[name])]
                told.append(tuple(pair(value) for value in now))
            self.assertEqual(led(five(), row, numbers), tuple(told))
        self.assertEqual(numbers, [(3, 6), -4, 0, (7, 3), 999999999])

    def test_empty_row(self):
        book = pairs()
        self.assertEqual(str(done(book, [])), "1 0 0, 0 1 0, 0 0 1")
        self.assertEqual(led(book, (), [1, 2, 3]), ())
        self.assertEqual(apart(book, []), ((0, 1), (0, 2), (1, 2)))

    def test_one_person(self):
        book = Book.read("talk a 4\nbehind a a")
        self.assertEqual(str(done(book, ["a"] * 3)), "1")
        self.assertEqual(led(book, ["a", "a"], [(4, 6)]), (((2, 3),), ((2, 3),)))
        self.assertEqual(apart(book, []), ())
        self.assertEqual(apart(book, ["a"]), ())

    def test_forty_talks(self):
        book, row = five(), ["a", "b", "c", "c"] * 10
        now, told = [1, 0, (1, 3), 0, -5], shares(done(book, []))
        for name in row:
            told = times(told, shares(book[name]))
        self.assertEqual(shares(done(book, row)), told)
        last = [sum(s * fraction(v) for s, v in zip(line, now)) for line in told]
        self.assertEqual(led(book, row, now)[-1], tuple(pair(value) for value in last))
        self.assertEqual(len(led(book, row, now)), 40)
        self.assertEqual(led(book, row, now)[-1], done(book, row).led(now))

    def test_by_name_and_again(self):
        book, row = pairs(), ["left", "right"]
        self.assertEqual(done(book=book, row=row), done(book, row))
        self.assertEqual(led(book=book, row=row, numbers=(1, 2, 3)), led(book, row, [1, 2, 3]))
        self.assertEqual(apart(book=book, row=row), apart(book, row))
        self.assertEqual(row, ["left", "right"])
        row.append("left")
        self.assertEqual(done(book, row), book["left"] >> book["right"] >> book["left"])

    def test_kinds_of_results(self):
        behind = led(pairs(), ["left"], [1, 2, 3])
        self.assertEqual({type(behind), type(behind[0]), type(behind[0][0])}, {tuple})
        lots = apart(pairs(), [])
        self.assertEqual({type(lots), type(lots[0])}, {tuple})


class WrongRows(unittest.TestCase):
    def check(self, row, at):
        book = pairs()
        for call in (done, apart):
            with raising(self, InvalidRow, at=at):
                call(book, row)
        for numbers in ([1, 2, 3], None, [1, True, 3]):
            with raising(self, InvalidRow, at=at):
                led(book, row, numbers)

    def test_no_sequence(self):
        for value in no_sequences() + [{"left": 1}, {"left"}]:
            self.check(value, 0)

    def test_first_wrong_thing(self):
        wrong = [
            (["nobody"], 0), ([("left",)], 0), ([pairs(), "left"], 0),
            (["left", "left"], 1), (["left", "nobody"], 1), (["left", "nobody", "left"], 1), (("left", True), 1),
            (["left", ["right"]], 1), (["left", "left", "nobody"], 1), (["left", pairs()["right"]], 1),
            (["left", "right", "right"], 2), (["left", "right", None], 2), (["left", "right"] * 20 + ["right"], 40),
        ]
        for row, at in wrong:
            self.check(row, at)

    def test_any_thing_in_a_row(self):
        for value in odd_values():
            self.check(["left", value], 1)
            if value != "left":
                self.check([value, "left"], 0)


class WrongNumbers(unittest.TestCase):
    def test_no_sequence_of_that_many(self):
        for numbers in no_sequences() + [[], [1, 2], (1, 2, 3, 4), {1, 2, 3}, range(3)]:
            for row in ([], ["left"], ["left", "right"]):
                with raising(self, InvalidNumbers, at=0):
                    led(pairs(), row, numbers)

    def test_first_thing_that_is_no_value(self):
        for value in [True, None, "1", [1, 1], (1, 0), (1, -1), (1,), (1, 1, 1), (True, 1), pairs(), 0.5]:
            for row in ([], ["left"], ["left", "right"]):
                with raising(self, InvalidNumbers, at=1):
                    led(pairs(), row, [0, value, value])
                with raising(self, InvalidNumbers, at=2):
                    led(pairs(), row, (0, (-4, 2), value))


if __name__ == "__main__":
    unittest.main()
