"""Points [5], [6] and [7]: talks."""

import itertools
import unittest

from samples import fraction, no_sequences, odd_values, pair, pairs, raising, shares, small_talks, times
from talkmeans.errors import InvalidLot, InvalidNumbers, InvalidTalk, InvalidText
from talkmeans.talks import Talk


def lots_of(people):
    """All lots of so many people, in every order."""
    return [lot for k in range(people + 1) for lot in itertools.permutations(range(people), k)]


class Made(unittest.TestCase):
    def test_rows_are_divided_by_their_greatest_common_divisor(self):
        talk = Talk([[2, 4, 0], [9, 3, 6], [0, 0, 7]])
        self.assertEqual(talk.rows, ((1, 2, 0), (3, 1, 2), (0, 0, 1)))
        self.assertEqual(Talk([[4, 6], [5, 3]]).rows, ((2, 3), (5, 3)))

    def test_one_person(self):
        self.assertEqual(Talk([[9]]).rows, ((1,),))
        self.assertEqual(len(Talk(((3,),))), 1)

    def test_five_people(self):
        talk = Talk([[9] * 5] * 5)
        self.assertEqual(talk.rows, ((1,) * 5,) * 5)
        self.assertEqual(len(talk), 5)

    def test_beyond_the_limits(self):
        talk = Talk([[10**30 + 1] + [0] * 6] + [[0] * i + [7] + [0] * (6 - i) for i in range(1, 7)])
        self.assertEqual(len(talk), 7)
        big = Talk([[10**3999, 1], [0, 1]])
        self.assertEqual(big.rows[0], (10**3999, 1))
        self.assertEqual(str(big), "1" + "0" * 3999 + " 1, 0 1")

    def test_lists_and_tuples_alike(self):
        self.assertEqual(Talk([[1, 1], [0, 1]]), Talk(((1, 1), (0, 1))))
        self.assertEqual(Talk([(1, 1), [0, 1]]).rows, ((1, 1), (0, 1)))

    def test_by_name(self):
        self.assertEqual(Talk(rows=[[1]]), Talk([[1]]))

    def test_later_changes_have_no_effect(self):
        rows = [[1, 1], [0, 1]]
        talk = Talk(rows)
        rows[0][1] = 5
        rows.append([3])
        self.assertEqual(talk.rows, ((1, 1), (0, 1)))
        self.assertIs(type(talk.rows), tuple)
        self.assertTrue(all(type(row) is tuple for row in talk.rows))

    def test_arguments_stay(self):
        rows = [[2, 2], [0, 4]]
        Talk(rows)
        self.assertEqual(rows, [[2, 2], [0, 4]])


class Refused(unittest.TestCase):
    def test_no_sequence_or_empty(self):
        for value in no_sequences() + [[], (), {}, {(1,)}, range(1), 1.5, b"ab", iter([[1]])]:
            with raising(self, InvalidTalk, at=0):
                Talk(value)

    def test_first_wrong_row(self):
        wrong = [
            ([[1, 0]], 0), ([[1], [1]], 0), ([[1, 0], [0, 1, 0]], 1), ([[1, 0], [1]], 1), ([[1, 0], []], 1),
            ([[0]], 0), ([[1, 1], [1, 0]], 1), ([[0, 1], [0, 0]], 0), ([[1, 0], [0, -1]], 1), ([[1, -1], [0, 1]], 0),
            ([[True]], 0), ([[1, False], [0, 1]], 0), ([[1, 0], [0, True]], 1), ([[1, "0"], [0, 1]], 0),
            ([[1, None], [0, 1]], 0), ([[1.0]], 0), ([[1, 0], [0, (1, 1)]], 1), ([[1, 0], "01"], 1), ([1, 2], 0),
            ([[1, 0, 0], [0, 1, 0], [0, 0, [1]]], 2), ([[1, 0, 0], [1, 0, 0], [1, 0, 0]], 1), (["1"], 0),
            ([[1, 0], {0: 1}], 1), ([[1, 0], None], 1), ([[1, 0], Talk([[1]])], 1),
        ]
        for rows, at in wrong:
            with raising(self, InvalidTalk, at=at):
                Talk(rows)
            with raising(self, InvalidTalk, at=at):
                Talk(tuple(rows))

    def test_any_value_as_a_row_or_a_weight(self):
        for value in odd_values():
            with raising(self, InvalidTalk, at=1):
                Talk([[1, 1], value])
            if not isinstance(value, int) or isinstance(value, bool) or value < 0:
                with raising(self, InvalidTalk, at=1):
                    Talk([[1, 1], [value, 1]])
            if value != [[1]]:
                with raising(self, InvalidTalk, at=0):
                    Talk(value)


class Equal(unittest.TestCase):
    def test_equal_by_rows(self):
        self.assertEqual(Talk([[2, 2], [0, 5]]), Talk([[1, 1], [0, 1]]))
        self.assertFalse(Talk([[2, 2], [0, 5]]) != Talk([[1, 1], [0, 1]]))
        self.assertNotEqual(Talk([[1, 2], [0, 1]]), Talk([[1, 1], [0, 1]]))
        self.assertNotEqual(Talk([[1]]), Talk([[1, 0], [0, 1]]))

    def test_equal_to_nothing_of_another_class(self):
        talk = Talk([[1, 1], [0, 1]])
        for value in odd_values() + [talk.rows, str(talk), [[1, 1], [0, 1]]]:
            if isinstance(value, Talk):
                continue
            self.assertFalse(talk == value)
            self.assertFalse(value == talk)
            self.assertTrue(talk != value)

    def test_not_iterable(self):
        talk = Talk([[1]])
        for use in (iter, list, tuple, sorted, lambda value: 0 in value, lambda value: [*value], reversed):
            with self.assertRaises(TypeError):
                use(talk)


class Heeded(unittest.TestCase):
    def test_heeds(self):
        talk = Talk([[1, 0, 2], [0, 1, 0], [1, 1, 1]])
        self.assertEqual([talk.heeds(i) for i in range(3)], [(0, 2), (1,), (0, 1, 2)])
        self.assertEqual(talk.heeds(i=2), (0, 1, 2))
        self.assertEqual(Talk([[5]]).heeds(0), (0,))

    def test_closes_as_defined(self):
        for talk in small_talks():
            for lot in lots_of(len(talk)):
                told = all(share == 0 or j in lot for i in lot for j, share in enumerate(shares(talk)[i]))
                self.assertIs(talk.closes(lot), told)
                self.assertIs(talk.closes(list(lot)), told)

    def test_closes_examples(self):
        talk = Talk.read("1 1 0, 1 1 0, 0 0 1")
        self.assertIs(talk.closes([1, 0]), True)
        self.assertIs(talk.closes(lot=(2,)), True)
        self.assertIs(talk.closes([]), True)
        self.assertIs(talk.closes([0, 1, 2]), True)
        self.assertIs(talk.closes([1, 2]), False)

    def test_firm_as_defined(self):
        for talk in small_talks():
            for lot in lots_of(len(talk)):
                rows = [list(row) for row in talk.rows]
                for i in lot:
                    rows[i] = [int(i == j) for j in range(len(talk))]
                self.assertEqual(talk.firm(lot), Talk(rows))

    def test_firm_examples(self):
        talk = Talk.read("1 1 0, 1 1 0, 1 0 1")
        self.assertEqual(str(talk.firm(lot=[2, 0])), "1 0 0, 1 1 0, 0 0 1")
        self.assertEqual(talk.firm([]), talk)
        self.assertEqual(str(talk), "1 1 0, 1 1 0, 1 0 1")

    def test_wrong_lots(self):
        talk = Talk.read("1 1 0, 1 1 0, 0 0 1")
        wrong = [[3], [-1], [0, 0], (0, 1, 0), [True], [False, 1], [0, True], ["0"], [None], [[0]], [(0,)], [0, [1]]]
        wrong += [value for value in odd_values() if value not in ([], (), (1, 0))]
        wrong += [{0}, {0: 1}, range(2), "01", [1.0], [{}]]
        for lot in wrong:
            with raising(self, InvalidLot):
                talk.closes(lot)
            with raising(self, InvalidLot):
                talk.firm(lot)
        self.assertEqual(talk, Talk.read("1 1 0, 1 1 0, 0 0 1"))


class Led(unittest.TestCase):
    def test_led_as_defined(self):
        choices = [0, -7, (3, 4), (-6, 4), (999999999, 999999998), 10**30]
        for talk in small_talks():
            for numbers in itertools.product(choices, repeat=len(talk)):
                told = [sum(s * fraction(v) for s, v in zip(row, numbers)) for row in shares(talk)]
                self.assertEqual(talk.led(numbers), tuple(pair(value) for value in told))

    def test_lowest_terms_and_kinds(self):
        behind = Talk([[1, 1], [0, 1]]).led([(2, 4), (-9, 6)])
        self.assertEqual(behind, ((-1, 2), (-3, 2)))
        self.assertEqual(Talk([[1, 1], [0, 1]]).led(numbers=[1, -1]), ((0, 1), (-1, 1)))
        self.assertIs(type(behind), tuple)
        self.assertTrue(all(type(value) is tuple for value in behind))

    def test_one_and_five_people(self):
        self.assertEqual(Talk([[4]]).led(((6, 4),)), ((3, 2),))
        talk = Talk([[9, 9, 9, 9, 9]] * 5)
        self.assertEqual(talk.led((1, 2, 3, 4, (11, 2))), ((31, 10),) * 5)

    def test_returned_values_may_be_passed_on(self):
        talk = Talk.read("1 9 9 9 9, 0 1 9 9 9, 0 0 1 9 9, 0 0 0 1 9, 9 0 0 0 1")
        now = (1, 0, 0, 0, 0)
        told = [fraction(value) for value in now]
        for _ in range(40):
            now = talk.led(now)
            told = [sum(s * v for s, v in zip(row, told)) for row in shares(talk)]
        self.assertEqual(now, tuple(pair(value) for value in told))

    def test_no_sequence_of_that_many(self):
        talk = Talk([[1, 1], [0, 1]])
        wrong = [[], (), [1], (1, 2, 3), {1, 2}, {0: 1, 1: 2}, range(2), "12", [True], [None] * 3]
        for numbers in no_sequences() + wrong:
            with raising(self, InvalidNumbers, at=0):
                talk.led(numbers)

    def test_first_thing_that_is_no_value(self):
        talk = Talk([[1, 1, 1], [0, 1, 0], [0, 0, 1]])
        wrong = [True, False, None, "1", [1, 2], (1, 0), (1, -2), (1,), (), (1, 2, 3), (True, 1), (1, True), (1, "2")]
        wrong += [(None, 1), ((1, 1), 1), 1.5, (1.0, 2), talk, pairs(), [], [1], "1/2"]
        for value in wrong:
            for at in range(3):
                numbers = [5, (1, 2), -3]
                numbers[at] = value
                numbers[at + 1:] = [value] * (2 - at)
                with raising(self, InvalidNumbers, at=at):
                    talk.led(numbers)
        for value in odd_values():
            if isinstance(value, bool) or not isinstance(value, int):
                with raising(self, InvalidNumbers, at=1):
                    talk.led((0, value, 0))

    def test_arguments_stay(self):
        numbers = [(2, 4), 3]
        Talk([[1, 1], [0, 1]]).led(numbers)
        self.assertEqual(numbers, [(2, 4), 3])


class Chained(unittest.TestCase):
    def test_does_what_both_do(self):
        talks = small_talks()
        for p, q in itertools.product(talks, repeat=2):
            if len(p) == len(q):
                self.assertEqual(shares(p >> q), times(shares(p), shares(q)))

    def test_the_order_matters(self):
        left, right = Talk.read("1 1 0, 1 1 0, 0 0 1"), Talk.read("1 0 0, 0 1 1, 0 1 1")
        self.assertEqual(str(left >> right), "1 1 0, 1 1 2, 1 1 2")
        self.assertEqual(str(right >> left), "2 1 1, 2 1 1, 0 1 1")
        self.assertEqual((left >> right).led([0, 6, 9]), right.led(left.led([0, 6, 9])))
        self.assertEqual(str(left), "1 1 0, 1 1 0, 0 0 1")

    def test_rows_are_normal(self):
        both = Talk.read("1 1, 1 1") >> Talk.read("1 1, 1 1")
        self.assertEqual(both.rows, ((1, 1), (1, 1)))
        self.assertIs(type(both), Talk)

    def test_long_chain(self):
        talk = Talk.read("1 9 9 9 9, 0 1 9 9 9, 0 0 1 9 9, 0 0 0 1 9, 9 0 0 0 1")
        all_done, told = talk, shares(talk)
        for _ in range(39):
            all_done, told = all_done >> talk, times(told, shares(talk))
        self.assertEqual(shares(all_done), told)


class Texts(unittest.TestCase):
    def test_written(self):
        self.assertEqual(str(Talk([[2, 2, 0], [1, 1, 0], [0, 0, 3]])), "1 1 0, 1 1 0, 0 0 1")
        self.assertEqual(str(Talk([[7]])), "1")

    def test_read_back(self):
        for talk in small_talks():
            self.assertEqual(Talk.read(str(talk)), talk)
            self.assertIs(type(Talk.read(str(talk))), Talk)

    def test_read(self):
        self.assertEqual(Talk.read("2 2, 0 3").rows, ((1, 1), (0, 1)))
        self.assertEqual(Talk.read(text="1").rows, ((1,),))
        self.assertEqual(Talk.read("999999999 1, 0 1").rows, ((999999999, 1), (0, 1)))

    def test_nearly_right_parts(self):
        wrong = ["", " ", "1 ", " 1", "1  1", "1\t1", "1\n1", "01", "00", "1 01", "-1", "+1"]
        wrong += ["1.0", "1_0", "1/2", "0x1", "a", "1a", "1000000000", "1,1", "1 1,", "1,1 1", "\u00b2", "\u0661"]
        for part in wrong:
            with raising(self, InvalidText, at=0):
                Talk.read(part)
            with raising(self, InvalidText, at=1):
                Talk.read("1 1, " + part)
            with raising(self, InvalidText, at=0):
                Talk.read(part + ", 1 1, " + part)

    def test_nearly_right_gaps(self):
        for text, at in [("1 0,0 1", 0), ("1 0,  0 1", 1), ("1 0 , 0 1", 0), ("1 0, 0 1, ", 2), ("1 0, 0 1,", 1),
                         (", 1 0, 0 1", 0), ("1 0, , 0 1", 1), ("1 0\n0 1", 0), ("1 0; 0 1", 0)]:
            with raising(self, InvalidText, at=at):
                Talk.read(text)

    def test_then_the_talk(self):
        for text, at in [("0", 0), ("1 1", 0), ("1, 1", 0), ("1 0, 0", 1), ("1 0, 1 0", 1), ("0 0, 0 1", 0),
                         ("1 0, 0 1, 0 0 1", 0), ("1 0 0, 0 1 0, 0 0 0", 2), ("0 1, 1 1", 0)]:
            with raising(self, InvalidTalk, at=at):
                Talk.read(text)

    def test_text_errors_come_first(self):
        with raising(self, InvalidText, at=2):
            Talk.read("0 1, 1 1 1, 01")


if __name__ == "__main__":
    unittest.main()
