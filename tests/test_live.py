"""Point [19]: live talks."""

import contextlib
import itertools
import random
import unittest

from samples import (
    alone, five, fraction, free, full, is_plain, no_sequences, nowhere, odd_values, one_talk, pair, pairs,
    raising, shares, small_books, snapshot, told_books, unchanged,
)
from talkmeans.books import Book
from talkmeans.errors import InvalidLot, InvalidNumbers, NoTalk, Refused, TalkError
from talkmeans.kinds import is_lot, is_value
from talkmeans.live import Live
from talkmeans.shrinking import spread
from talkmeans.talks import Talk
from talkmeans.ways import led

BOOKS = told_books() + small_books(60, 61)
NO_NAMES = [value for value in odd_values() if value != "left"]


def state(live):
    """What can be seen of a live talk."""
    return (str(live.book), live.row, live.numbers, len(live))


def history(live):
    """What can be seen of a live talk, and what would be if all were taken back; it is taken back."""
    found = [state(live)]
    while live.undo():
        found.append(state(live))
    return found


def opened():
    return Live(pairs(), [0, 6, 9])


class Slow:
    """A live talk told in plain words: a list of states, the last one of which is now."""

    def __init__(self, book, numbers):
        self.states = [(book, (), tuple(fraction(number) for number in numbers))]

    def can(self, names):
        book, row, _ = self.states[-1]
        row = row[-1:] + tuple(names)
        return all(step in book.steps for step in zip(row, row[1:]))

    def do(self, names):
        book, row, numbers = self.states[-1]
        for name in names:
            numbers = tuple(sum(a * b for a, b in zip(weights, numbers)) for weights in shares(book[name]))
        self.states.append((book, row + tuple(names), numbers))

    def change(self, book):
        self.states.append((book, (), self.states[-1][2]))

    def undo(self):
        if len(self.states) > 1:
            self.states.pop()

    def state(self):
        book, row, numbers = self.states[-1]
        return (str(book), row, tuple(pair(number) for number in numbers), len(self.states) - 1)


class Opening(unittest.TestCase):
    def test_attributes(self):
        book = pairs()
        live = Live(book, [0, (6, 4), -9])
        self.assertEqual(live.book, book)
        self.assertEqual(live.row, ())
        self.assertEqual(live.numbers, ((0, 1), (3, 2), (-9, 1)))
        self.assertTrue(is_plain(live.row) and is_plain(live.numbers))
        self.assertEqual(len(live), 0)
        self.assertIs(live.undo(), False)

    def test_parameters(self):
        self.assertEqual(state(Live(book=pairs(), numbers=(0, 6, 9))), state(opened()))

    def test_invalid_numbers(self):
        for wrong in no_sequences() + [[], (1, 2), [1, 2, 3, 4]]:
            with raising(self, InvalidNumbers, at=0):
                Live(pairs(), wrong)
        for wrong in odd_values():
            if not is_value(wrong):
                for at in range(3):
                    numbers = [1, 2, 3]
                    numbers[at] = wrong
                    with unchanged(self, numbers):
                        with raising(self, InvalidNumbers, at=at):
                            Live(pairs(), numbers)

    def test_numbers_may_change_later(self):
        numbers = [0, 6, 9]
        live = Live(pairs(), numbers)
        numbers[0] = 5
        self.assertEqual(live.numbers, ((0, 1), (6, 1), (9, 1)))

    def test_live_talks_are_not_iterable(self):
        live = opened()
        live.do("left")
        for call in (iter, list, tuple, sorted):
            with self.assertRaises(TypeError):
                call(live)
        with self.assertRaises(TypeError):
            "left" in live

    def test_two_live_talks_of_one_book(self):
        book = pairs()
        first, other = Live(book, [0, 6, 9]), Live(book, [0, 6, 9])
        first.do("left")
        self.assertEqual(other.row, ())
        self.assertEqual(len(other), 0)


class Doing(unittest.TestCase):
    def test_spreads_numbers_and_row(self):
        live = opened()
        self.assertEqual(live.do("left"), (6, 1))
        self.assertEqual((live.row, live.numbers, len(live)), (("left",), ((3, 1), (3, 1), (9, 1)), 1))
        self.assertEqual(live.do(name="right"), (3, 1))
        self.assertEqual((live.row, live.numbers, len(live)), (("left", "right"), ((3, 1), (6, 1), (6, 1)), 2))
        self.assertEqual(live.do("left"), (3, 2))
        self.assertTrue(is_plain(live.numbers) and is_plain(live.row))

    def test_any_talk_may_be_the_first_one(self):
        for name in ("left", "right"):
            live = opened()
            live.do(name)
            self.assertEqual(live.row, (name,))

    def test_no_talk(self):
        for ahead in ([], ["left"], ["left", "right"]):
            for wrong in NO_NAMES + ["up", "lefts", "Left", ["left"], ("left",)]:
                live = opened()
                live.several(ahead)
                with unchanged(self, live, wrong):
                    with raising(self, NoTalk, name=wrong):
                        live.do(wrong)

    def test_no_talk_keeps_the_thing_itself(self):
        thing = ["left"]
        with self.assertRaises(NoTalk) as caught:
            opened().do(thing)
        self.assertIs(caught.exception.name, thing)

    def test_refused(self):
        live = opened()
        for k, name in enumerate(["left", "right"] * 4):
            if k > 0:
                other = "left" if name == "right" else "right"
                with unchanged(self, live):
                    with raising(self, Refused, at=k):
                        live.do(other)
            live.do(name)
        live = Live(nowhere(), [1, 2, 3])
        live.several(["b", "a"])
        for name in ("a", "b"):
            with unchanged(self, live):
                with raising(self, Refused, at=2):
                    live.do(name)

    def test_no_talk_comes_first(self):
        live = Live(nowhere(), [1, 2, 3])
        live.do("a")
        with raising(self, NoTalk, name="c"):
            live.do("c")
        with raising(self, Refused, at=1):
            live.do("a")

    def test_the_ring_goes_on_behind_a_refused_talk(self):
        live = opened()
        live.do("left")
        with raising(self, Refused, at=1):
            live.do("left")
        live.do("right")
        with raising(self, Refused, at=2):
            live.do("right")
        self.assertEqual(live.row, ("left", "right"))
        # A book of one talk that can't come behind itself does not go on at all.
        once = Live(Book.read("talk a 1 1, 1 1"), [0, 1])
        self.assertEqual(once.do("a"), (0, 1))
        for _ in range(2):
            with raising(self, Refused, at=1):
                once.do("a")
        self.assertEqual(once.row, ("a",))

    def test_as_rows_are_led(self):
        live = Live(five(), [(1, 3), -2, 7, 0, (999999999, 999999998)])
        row = ["a", "b", "c", "c", "c", "a", "b"]
        behind = led(five(), row, live.numbers)
        self.assertEqual([live.do(name) for name in row], [spread(values) for values in behind])
        self.assertEqual(live.numbers, behind[-1])

    def test_one_person(self):
        live = Live(alone(), [(6, 4)])
        self.assertEqual(live.several(["a", "b", "b"]), ((0, 1),) * 3)
        self.assertEqual(live.numbers, ((3, 2),))
        self.assertEqual((live.row, len(live)), (("a", "b", "b"), 1))

    def test_book_of_one_talk(self):
        live = Live(one_talk(), [1, 2, 3])
        self.assertEqual([live.do("a") for _ in range(3)], [(3, 2)] * 3)


class Several(unittest.TestCase):
    def test_all_of_them(self):
        live = opened()
        self.assertEqual(live.several(["left", "right", "left"]), ((6, 1), (3, 1), (3, 2)))
        self.assertEqual((live.row, len(live)), (("left", "right", "left"), 1))
        self.assertEqual(live.several(names=("right",)), ((3, 4),))
        self.assertEqual((live.row, len(live)), (("left", "right", "left", "right"), 2))
        self.assertTrue(is_plain(live.several(["left", "right"])))

    def test_none_of_them(self):
        live = opened()
        for k, empty in enumerate(([], (), [])):
            self.assertEqual(live.several(empty), ())
            self.assertEqual((live.row, live.numbers, len(live)), ((), ((0, 1), (6, 1), (9, 1)), k + 1))
        live.do("left")
        self.assertEqual(live.several([]), ())
        self.assertEqual((live.row, len(live)), (("left",), 5))
        self.assertEqual([live.undo() for _ in range(6)], [True] * 5 + [False])

    def test_as_one_by_one(self):
        for book in BOOKS:
            for names in itertools.product(book.names, repeat=3):
                one, other = (Live(book, range_of(book)) for _ in range(2))
                spreads, error = [], None
                for name in names:
                    try:
                        spreads.append(one.do(name))
                    except Refused as caught:
                        error = caught
                        break
                if error is None:
                    self.assertEqual(other.several(names), tuple(spreads))
                    self.assertEqual((other.row, other.numbers, len(other)), (one.row, one.numbers, 1))
                    continue
                with unchanged(self, other):
                    with raising(self, Refused, at=len(spreads)):
                        other.several(list(names))

    def check_cause(self, live, names, index, error, **kept):
        with unchanged(self, live, names):
            with self.assertRaises(Refused) as caught:
                live.several(names)
        found = caught.exception
        self.assertIs(type(found), Refused)
        self.assertEqual(found.at, index)
        self.assertIs(type(found.__cause__), error)
        self.assertEqual(vars(found.__cause__), kept)
        return found.__cause__

    def test_refused_from_no_talk(self):
        for wrong in NO_NAMES + ["up"]:
            for k in range(4):
                names = ["left", "right", "left"][:k] + [wrong] + ["left", None]
                cause = self.check_cause(opened(), names, k, NoTalk, name=wrong)
                self.assertIs(cause.name, wrong)

    def test_refused_from_refused(self):
        # The index counts in the names, the number of talks in the whole row.
        live = opened()
        self.check_cause(live, ["left", "left", "up"], 1, Refused, at=1)
        live.several(["left", "right", "left"])
        self.check_cause(live, ["left", "right"], 0, Refused, at=3)
        self.check_cause(live, ("right", "left", "left"), 2, Refused, at=5)
        self.check_cause(live, ["right", "left", "up"], 2, NoTalk, name="up")
        live.change(pairs())
        self.check_cause(live, ["left", "left"], 1, Refused, at=1)

    def test_the_ring_goes_on_behind_refused_ones(self):
        live = opened()
        live.do("left")
        self.check_cause(live, ["right", "left", "right", "right"], 3, Refused, at=4)
        self.assertEqual(live.several(["right", "left"]), ((3, 1), (3, 2)))
        self.assertEqual((live.row, len(live)), (("left", "right", "left"), 2))

    def test_names_may_change_later(self):
        live, names = opened(), ["left", "right"]
        live.several(names)
        names.append("up")
        self.assertEqual(live.row, ("left", "right"))

    def test_forty_talks(self):
        names = ["a", "b", "c", "c"] * 10
        live = Live(five(), [1, 2, 3, 4, 5])
        spreads = live.several(names)
        self.assertEqual(spreads, tuple(spread(values) for values in led(five(), names, [1, 2, 3, 4, 5])))
        self.assertEqual((live.row, len(live)), (tuple(names), 1))


def range_of(book):
    return [(3 * i * i - 7, i + 1) for i in range(book.people)]


class Changing(unittest.TestCase):
    def test_another_book(self):
        live = opened()
        live.several(["left", "right"])
        other = Book.read("talk up 1 0 1, 0 1 0, 1 0 1")
        self.assertIs(live.change(other), None)
        self.assertEqual(live.book, other)
        self.assertEqual((live.row, live.numbers, len(live)), ((), ((3, 1), (6, 1), (6, 1)), 2))
        with raising(self, NoTalk, name="left"):
            live.do("left")
        self.assertEqual(live.do("up"), (3, 2))
        self.assertEqual(live.row, ("up",))
        live.change(book=pairs())
        self.assertEqual((live.row, len(live)), ((), 4))

    def test_any_talk_may_be_the_next_one(self):
        for name in ("left", "right"):
            live = opened()
            live.do("left")
            live.change(live.book)
            live.do(name)
            with raising(self, Refused, at=1):
                live.do(name)

    def test_firm(self):
        live = opened()
        live.do("right")
        self.assertIs(live.firm([0, 2]), None)
        self.assertEqual(live.book, pairs().firm([0, 2]))
        self.assertEqual((live.row, live.numbers, len(live)), ((), ((0, 1), (15, 2), (15, 2)), 2))
        live.do("right")
        self.assertEqual(live.numbers, ((0, 1), (15, 2), (15, 2)))
        live.firm(lot=())
        self.assertEqual((str(live.book), live.row, len(live)), (str(pairs().firm([0, 2])), (), 4))
        live.firm((1,))
        self.assertEqual(live.book, pairs().firm([0, 1, 2]))
        self.assertEqual([live.undo() for _ in range(6)], [True] * 5 + [False])
        self.assertEqual(state(live), state(opened()))

    def test_invalid_lot(self):
        live = opened()
        live.do("left")
        for wrong in odd_values() + [[0, 0], [3], (-1,), [0, True], [(0,)], "01", ["0"]]:
            if not is_lot(wrong, 3):
                with unchanged(self, live, wrong):
                    with raising(self, InvalidLot):
                        live.firm(wrong)

    def test_lot_may_change_later(self):
        live, lot = opened(), [0]
        live.firm(lot)
        lot.append(1)
        self.assertEqual(live.book, pairs().firm([0]))

    def test_books_stay(self):
        book, other = pairs(), free()
        with unchanged(self, book, other):
            live = Live(book, [0, 6, 9])
            live.several(["left", "right"])
            live.firm([0])
            live.change(other)
            live.several(["left", "left"])
            live.undo()
            live.within(lambda inner: inner.firm([1]))


class Undoing(unittest.TestCase):
    def test_each_deed(self):
        live = opened()
        deeds = [
            lambda: live.do("left"), lambda: live.several(["right", "left"]), lambda: live.several([]),
            lambda: live.firm([1]), lambda: live.do("left"), lambda: live.change(free()), lambda: live.do("left"),
        ]
        states = [state(live)]
        for k, deed in enumerate(deeds):
            deed()
            states.append(state(live))
            self.assertEqual(len(live), k + 1)
        self.assertEqual(history(live), states[::-1])
        self.assertIs(live.undo(), False)
        self.assertEqual(state(live), states[0])

    def test_returns_whether_there_was_one(self):
        live = opened()
        self.assertIs(live.undo(), False)
        live.do("left")
        self.assertIs(live.undo(), True)
        self.assertIs(live.undo(), False)
        self.assertIs(live.undo(), False)
        self.assertEqual(len(live), 0)

    def test_what_raised_an_error_is_not_taken_back(self):
        live = opened()
        live.do("left")
        for call in (lambda: live.do("left"), lambda: live.do("up"), lambda: live.several(["right", "right"]),
                     lambda: live.firm([7]), lambda: live.firm(None)):
            with unchanged(self, live):
                with self.assertRaises((TalkError, NoTalk)):
                    call()
        self.assertIs(live.undo(), True)
        self.assertEqual(state(live), state(opened()))

    def test_undo_and_do_again(self):
        live = opened()
        live.several(["left", "right"])
        live.undo()
        self.assertEqual(live.do("right"), (15, 2))
        self.assertEqual((live.row, len(live)), (("right",), 1))
        live.undo()
        self.assertEqual(state(live), state(opened()))


class Within(unittest.TestCase):
    def ready(self):
        live = opened()
        live.do("left")
        live.firm([0])
        live.several(["left", "right"])
        return live

    def check(self, work, told):
        """The live talk is as it was, all the way back, and the work's result is returned itself."""
        live, other = self.ready(), self.ready()
        found = live.within(work)
        self.assertEqual(found, told)
        self.assertEqual(snapshot(live), snapshot(other))
        self.assertEqual(history(live), history(other))

    def test_result_itself(self):
        thing = [1, 2]
        self.assertIs(opened().within(lambda live: thing), thing)
        self.assertIs(opened().within(work=lambda live: None), None)
        live = opened()
        self.assertIs(live.within(lambda inner: inner), live)

    def test_work_is_called_once_with_the_live_talk(self):
        live, calls = opened(), []
        live.within(calls.append)
        self.assertEqual(len(calls), 1)
        self.assertIs(calls[0], live)

    def test_work_that_does_talks(self):
        self.check(lambda live: live.do("left"), (3, 1))
        self.check(lambda live: live.several(["left", "right"]), ((3, 1), (9, 4)))
        self.check(lambda live: live.several([]), ())
        self.check(lambda live: (live.do("left"), live.row, len(live)), ((3, 1), ("left", "right", "left"), 4))

    def test_work_that_changes_the_book(self):
        def work(live):
            live.change(free())
            spreads = live.several(["left", "left"])
            live.firm([0, 1])
            return (spreads, live.row, str(live.book), live.do("left"), len(live))

        self.check(work, (((3, 2), (3, 2)), (), str(free().firm([0, 1])), (3, 2), 7))

    def test_work_that_takes_deeds_back(self):
        def work(live):
            return ([live.undo() for _ in range(4)], state(live), live.do("right"))

        self.check(work, ([True] * 3 + [False], state(opened()), (15, 2)))
        self.check(lambda live: (live.undo(), live.do("left"), len(live)), (True, (6, 1), 3))
        self.check(lambda live: live.undo(), True)

    def test_work_that_undoes_and_does_others(self):
        def work(live):
            live.undo()
            live.do("right")
            live.undo()
            live.undo()
            live.change(free())
            return len(live)

        self.check(work, 2)

    def test_work_that_works_within_again(self):
        def inner(live):
            live.undo()
            live.firm([2])
            live.do("right")
            return state(live)

        def work(live):
            live.do("left")
            ahead = state(live)
            first = live.within(inner)
            self.assertEqual(state(live), ahead)
            self.assertEqual(live.within(inner), first)
            live.undo()
            live.undo()
            return live.within(lambda other: other.within(lambda last: len(last)))

        self.check(work, 2)

    def test_work_that_ends_by_an_error(self):
        class Own(Exception):
            pass

        def fails(error):
            def work(live):
                live.do("left")
                live.undo()
                live.undo()
                live.change(free())
                raise error
            return work

        for error in (Own(), Refused(7), NoTalk("a"), KeyboardInterrupt(), StopIteration(3)):
            live, other = self.ready(), self.ready()
            with self.assertRaises(type(error)) as caught:
                live.within(fails(error))
            self.assertIs(caught.exception, error)
            self.assertEqual(snapshot(live), snapshot(other))
            self.assertEqual(history(live), history(other))

    def test_work_whose_own_talk_is_refused(self):
        live = self.ready()
        with unchanged(self, live):
            with raising(self, Refused, at=3):
                live.within(lambda inner: (inner.do("left"), inner.do("left")))
            with raising(self, NoTalk, name="up"):
                live.within(lambda inner: (inner.firm([1]), inner.do("up")))
            with raising(self, InvalidLot):
                live.within(lambda inner: (inner.undo(), inner.firm([9])))

    def test_error_inside_that_is_caught_inside(self):
        def work(live):
            live.do("left")
            try:
                live.within(lambda inner: (inner.do("right"), inner.do("right")))
            except Refused as error:
                return (error.at, live.row)

        self.check(work, (4, ("left", "right", "left")))

    def test_nothing_to_take_back(self):
        live = opened()
        self.assertEqual(live.within(lambda inner: [inner.do("left"), inner.undo(), inner.undo()]),
                         [(6, 1), True, False])
        self.assertEqual(state(live), state(opened()))
        self.assertIs(live.undo(), False)

    def test_goes_on_behind_it(self):
        live = self.ready()
        live.within(lambda inner: inner.several(["left", "right"]))
        live.do("left")
        self.assertEqual((live.row, len(live)), (("left", "right", "left"), 4))
        live.undo()
        self.assertEqual(history(live), history(self.ready()))


class ManyDeeds(unittest.TestCase):
    def test_sixty_deeds(self):
        rolls = random.Random(62)
        for book in [pairs(), five(), alone(), full(3)] + small_books(30, 63):
            numbers = range_of(book)
            live, slow = Live(book, numbers), Slow(book, numbers)
            firm = book.firm([book.people - 1])
            for _ in range(60):
                choice = rolls.randrange(8)
                names = [rolls.choice(book.names) for _ in range(rolls.randrange(1, 4) if choice > 5 else 1)]
                if choice == 0:
                    live.change(firm)
                    slow.change(firm)
                elif choice == 1:
                    live.firm([0])
                    slow.change(slow.states[-1][0].firm([0]))
                elif choice == 2:
                    live.undo()
                    slow.undo()
                else:
                    with contextlib.ExitStack() as stack:
                        if slow.can(names):
                            slow.do(names)
                        else:
                            stack.enter_context(unchanged(self, live))
                            stack.enter_context(self.assertRaises(Refused))
                        live.do(names[0]) if len(names) == 1 else live.several(names)
                self.assertEqual(state(live), slow.state())
            within = state(live)
            live.within(history)
            self.assertEqual(state(live), within)
            self.assertEqual(history(live)[-1], Slow(book, numbers).state())

    def test_the_last_talk_of_sixty(self):
        talks = [("a", Talk.read("9 8 7 6 5, 1 2 3 4 5, 0 0 1 9 9, 9 9 0 7 1, 3 4 0 5 1")),
                 ("b", Talk.read("9 9 9 9 9, 9 8 9 9 8, 9 9 9 2 7, 9 9 1 7 7, 9 9 7 7 5"))]
        book = Book(talks, [("a", "b"), ("b", "a")])
        first = [(999999999 - i, 999999937 - 6 * i) for i in range(5)]
        live = Live(book, first)
        spreads = [live.do(name) for name in ["a", "b"] * 30]
        self.assertEqual(live.numbers, led(book, ["a", "b"] * 30, first)[-1])
        self.assertEqual(spreads[-1], spread(live.numbers))
        self.assertEqual(len(live), 60)
        self.assertEqual(len(history(live)), 61)


if __name__ == "__main__":
    unittest.main()
