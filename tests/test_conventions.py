"""Points [1], [2] and [3]: what holds for every module."""

import unittest

from samples import (
    FIVE_TEXT, PAIRS_TEXT, deep, five, full, one_talk, odd_values, pairs, raising, snapshot, unchanged,
)
from talkmeans.books import Book
from talkmeans.deciding import agree, rings_of, split, talks_to_meet
from talkmeans.desk import Desk
from talkmeans.ends import can_count, end, how_counts, least_lots, settled, weights
from talkmeans.errors import (
    InvalidBook, InvalidCommand, InvalidLot, InvalidNumbers, InvalidRow, InvalidTalk, NoTalk, Refused, TalkError,
)
from talkmeans.live import Live
from talkmeans.mending import adds, stoppers, strikes
from talkmeans.papers import paper, paper_holds
from talkmeans.shrinking import factor, slow_row, slowest, spread
from talkmeans.talks import Talk
from talkmeans.telling import alike, first_of, swaps, told_back
from talkmeans.ways import apart, done, is_ring, is_row, led


class Kinds(unittest.TestCase):
    def test_bools_are_no_integers(self):
        book = pairs()
        with raising(self, InvalidTalk, at=0):
            Talk([[True]])
        with raising(self, InvalidNumbers, at=1):
            book["left"].led([0, False, 0])
        with raising(self, InvalidNumbers, at=0):
            book["left"].led([(1, True), 0, 0])
        with raising(self, InvalidLot):
            book["left"].closes([False])
        with raising(self, InvalidLot):
            book["left"].firm([True])
        with self.assertRaises(NoTalk) as caught:
            book[True]
        self.assertIs(caught.exception.name, True)
        live = Live(book, [0, 1, 2])
        with raising(self, InvalidNumbers, at=2):
            Live(book, [0, 1, True])
        with raising(self, InvalidLot):
            live.firm([True])
        with raising(self, NoTalk, name=False):
            live.do(False)
        with raising(self, Refused, at=1):
            live.several(["left", True])
        with raising(self, InvalidNumbers, at=0):
            told_back(book["left"], [True, 0, 0])
        with raising(self, InvalidCommand):
            Desk().say(True)

    def test_names(self):
        talk = Talk([[1]])
        for name in ("a", "z", "abcdef", "mnopqr"):
            self.assertEqual(Book([(name, talk)]).names, (name,))
        for name in ("", "abcdefg", "A", "aB", "a_b", "a-b", "a1", "a ", " a", "\n", "\u00e9", "\u00df", "a\u0131"):
            with raising(self, InvalidBook, word="talks"):
                Book([(name, talk)])

    def test_values(self):
        talk = Talk([[1]])
        told_as = [(0, (0, 1)), (-3, (-3, 1)), ((0, 5), (0, 1)), ((6, 4), (3, 2)), ((-6, 4), (-3, 2)), ((7, 1), (7, 1))]
        for value, told in told_as:
            self.assertEqual(talk.led([value]), (told,))
        for value in [(1, 0), (1, -1), (0, 0), (1,), (1, 2, 3), [1, 2], "1/2", None, ((1, 2), 1), 1.0]:
            with raising(self, InvalidNumbers, at=0):
                talk.led([value])

    def test_lots_are_ascending_tuples(self):
        for talk in five().talks[0][1], pairs()["left"]:
            for i in range(len(talk)):
                lot = talk.heeds(i)
                self.assertIs(type(lot), tuple)
                self.assertEqual(list(lot), sorted(lot))

    def test_values_nested_eight_deep(self):
        value = deep(8)
        with raising(self, InvalidTalk, at=0):
            Talk(value)
        with raising(self, InvalidBook, word="talks"):
            Book(value)
        with raising(self, InvalidBook, word="steps"):
            Book([("a", Talk([[1]]))], value)
        with raising(self, InvalidRow, at=0):
            done(pairs(), value)
        with raising(self, InvalidLot):
            pairs().firm(value)
        with self.assertRaises(NoTalk) as caught:
            pairs()[value]
        self.assertIs(caught.exception.name, value)
        self.assertIs(is_row(pairs(), value), False)
        self.assertIs(paper_holds(pairs(), value), False)
        live = Live(pairs(), [0, 1, 2])
        calls = [lambda: end(pairs()["left"], value), lambda: told_back(pairs()["left"], value),
                 lambda: first_of(pairs(), [], value), lambda: Live(pairs(), value)]
        for call in calls:
            with raising(self, InvalidNumbers, at=0):
                call()
        with raising(self, InvalidLot):
            live.firm(value)
        with raising(self, NoTalk, name=value):
            live.do(value)
        with raising(self, Refused, at=0):
            live.several([value])
        with raising(self, InvalidCommand):
            Desk().say(value)

    def test_returned_values_are_in_lowest_terms(self):
        talk = Talk([[2, 2], [4, 4]])
        self.assertEqual(weights(talk), ((1, 2), (1, 2)))
        self.assertEqual(end(talk, [(2, 4), (6, 4)]), (1, 1))
        self.assertEqual(spread([(2, 4), (9, 6)]), (1, 1))
        self.assertEqual(spread([(4, 8)]), (0, 1))
        self.assertEqual(factor(Talk([[6, 2], [2, 2]])), (1, 4))


class NothingChanges(unittest.TestCase):
    def test_book_and_talks_stay(self):
        book = pairs()
        talk = book["left"]
        calls = [
            talk.led, talk.closes, talk.firm, book.firm, book.behind, book.without,
            lambda value: talk.led([value, 1, 2]),
            lambda value: book[value],
            lambda value: book.with_step(value, "left"),
            lambda value: book.with_step("left", value),
            lambda value: book.heeding(value, 0, 2),
            lambda value: is_row(book, value),
            lambda value: is_ring(book, value),
            lambda value: done(book, value),
            lambda value: apart(book, value),
            lambda value: led(book, value, [1, 2, 3]),
            lambda value: led(book, ["left"], value),
            lambda value: end(talk, value),
            lambda value: end(talk, [0, value, 2]),
            lambda value: paper_holds(book, value),
            lambda value: paper_holds(book, (value,)),
            lambda value: Book(book.talks, value),
            lambda value: Book([("a", talk), value]),
            lambda value: told_back(talk, value),
            lambda value: told_back(talk, [0, 1, value]),
            lambda value: first_of(book, value, [1, 2, 3]),
            lambda value: first_of(book, ["left"], value),
            lambda value: Live(book, value),
            lambda value: Live(book, [0, 1, 2]).do(value),
            lambda value: Live(book, [0, 1, 2]).several(["left", value]),
            lambda value: Live(book, [0, 1, 2]).firm(value),
            lambda value: Desk().say(value),
        ]
        for value in odd_values():
            for call in calls:
                with unchanged(self, value):
                    try:
                        call(value)
                    except (TalkError, NoTalk):
                        pass
        self.assertEqual(str(book), PAIRS_TEXT)
        self.assertEqual(talk.rows, ((1, 1, 0), (1, 1, 0), (0, 0, 1)))
        self.assertEqual(list(vars(talk)), ["rows"])
        self.assertEqual(list(vars(book)), ["talks", "steps"])

    def test_same_call_same_result(self):
        book, row = five(), ["a", "b", "c"]

        def results():
            behind = led(book, row, [1, 2, 3, 4, 5])
            decided = [agree(book), split(book), talks_to_meet(book), rings_of(book), paper(book)]
            shrunk = [factor(book["a"]), slowest(book, 3), slow_row(book, 3), spread(behind[-1])]
            ended = [weights(book["b"]), end(book["b"], behind[0]), least_lots(book["c"]), can_count(book)]
            ended += [settled(book), how_counts(book, 3), paper_holds(book, ())]
            rows = [done(book, row), behind, apart(book, row), str(book), book.firm([1]), book.behind("c")]
            mended = [strikes(book), adds(book), adds(one_talk()), stoppers(book), swaps(book), alike(book, full(5))]
            back = [told_back(book["b"], behind[1]), first_of(book, ["b", "c"], behind[0])]
            return rows + decided + shrunk + ended + mended + back

        first = results()
        book.without("a").with_step("b", "b").heeding("b", 0, 4)
        live, desk = Live(book, [1, 2, 3, 4, 5]), Desk()
        desk.say("book " + str(book).replace("\n", " ; "))
        desk.say("people 5 4 3 2 1")
        for one in (live, desk.live):
            one.several(row)
            one.within(lambda inner: (inner.firm([0]), inner.undo(), inner.undo()))
            one.firm([3])
        self.assertEqual(results(), first)
        self.assertEqual(str(book), FIVE_TEXT)

    def test_arguments_stay(self):
        row, numbers, lot = ["left", "right"], [1, (4, 2), 3], [2, 0]
        led(pairs(), row, numbers)
        pairs().firm(lot)
        pairs()["left"].closes(lot)
        live = Live(pairs(), numbers)
        live.several(row)
        live.firm(lot)
        told_back(pairs()["left"], numbers)
        first_of(pairs(), row, numbers)
        self.assertEqual((row, numbers, lot), (["left", "right"], [1, (4, 2), 3], [2, 0]))

    def test_what_is_not_a_live_talk_or_a_desk_stays_beside_them(self):
        book, other = pairs(), pairs().with_step("left", "left")
        live, desk = Live(book, [0, 6, 9]), Desk()
        desk.say("book " + PAIRS_TEXT.replace("\n", " ; "))
        desk.say("people 0 6 9")
        beside = Live(book, [0, 6, 9])
        with unchanged(self, book, other, beside):
            for one in (live, desk.live):
                one.do("left")
                one.change(other)
                one.several(["left", "left"])
                one.firm([2])
                one.undo()
        self.assertEqual(snapshot(desk.live), snapshot(live))
        self.assertEqual(desk.book, book)


class Limits(unittest.TestCase):
    def test_full_size(self):
        names = ["abcdef", "b", "c", "d", "e"]
        talk = Talk([[9, 8, 7, 6, 5]] * 5)
        steps = [(p, q) for p in names for q in names]
        book = Book([(name, talk) for name in names], steps)
        self.assertEqual(len(book.steps), 25)
        self.assertEqual(Book.read(str(book)), book)
        row = (names * 8)[:40]
        self.assertIs(is_ring(book, row), True)
        top, bottom = 999999999, 999999998
        self.assertEqual(led(book, row, [(top, bottom)] * 5), (((top, bottom),) * 5,) * 40)
        self.assertEqual(end(talk, [(top, bottom)] * 5), (top, bottom))
        self.assertEqual((agree(book), talks_to_meet(book), paper(book)), (True, 1, ()))
        self.assertEqual((slowest(book, 4), len(slow_row(book, 4)), len(rings_of(book))), ((0, 1), 4, 31))
        self.assertEqual(settled(book), weights(talk))
        self.assertEqual((can_count(book), how_counts(book, 4)), ((0, 1, 2, 3, 4), "always"))
        two = tuple((i, j) for i in range(5) for j in range(i + 1, 5))
        self.assertEqual((strikes(book), adds(book), stoppers(book)), (((),), (), two))
        self.assertEqual(swaps(book), tuple((p, q) for p in sorted(names) for q in sorted(names) if p < q))
        self.assertIs(told_back(talk, [(top, bottom)] * 5), None)
        self.assertIs(alike(book, book), True)
        live = Live(book, [(top, bottom)] * 5)
        self.assertEqual([live.several(row) for _ in range(60)], [((0, 1),) * 40] * 60)
        self.assertEqual((len(live), len(live.row), live.numbers), (60, 2400, ((top, bottom),) * 5))

    def test_somewhat_beyond_the_limits(self):
        people = 7
        talk = Talk([[12 + i + j for j in range(people)] for i in range(people)])
        book = Book([(name, talk) for name in ("a", "b", "c", "d", "e", "f", "g")], [("a", "a")])
        row = ["a"] * 50
        self.assertEqual(len(led(book, row, [10**12] * people)), 50)
        self.assertEqual(apart(book, row), ())
        self.assertEqual(Book.read(str(book)), book)
        self.assertIs(agree(book), True)
        self.assertEqual(talks_to_meet(book.without("b")), 1)
        firm = book.firm(list(range(people)))
        self.assertEqual((split(firm)[0], talks_to_meet(firm), paper(firm)), (("a",), None, None))
        self.assertEqual(least_lots(firm["g"]), tuple((i,) for i in range(people)))
        self.assertEqual((rings_of(book), can_count(book)), ((("a",),), tuple(range(people))))
        self.assertEqual(settled(book), weights(talk))
        self.assertEqual(slowest(book, 6), factor(done(book, ["a"] * 6)))
        harmless = Book(firm.talks, [("a", "b"), ("a", "c"), ("b", "c"), ("f", "g")])
        self.assertGreater(len(paper(harmless)), 600)
        self.assertIs(paper_holds(harmless, paper(harmless)), True)
        self.assertEqual((strikes(firm), adds(firm), stoppers(firm)), ((("a",),), (), ((),)))
        self.assertEqual(stoppers(book), tuple((i, j) for i in range(people) for j in range(i + 1, people)))
        self.assertEqual((len(swaps(firm)), alike(firm, book)), (21, False))
        live = Live(book, [10**12 + i for i in range(people)])
        self.assertEqual([live.do("a") for _ in range(80)][-1], live.several([]) or spread(live.numbers))
        self.assertEqual(len(live), 81)

    def test_what_was_returned_may_be_passed_on(self):
        book = five()
        talk = done(book, ["a", "b", "c", "c"] * 10)
        self.assertEqual(Talk(talk.rows), talk)
        self.assertEqual(Book(book.talks, book.steps), book)
        large = Book([("a", talk), ("b", talk.firm(talk.heeds(0)))], [("a", "b"), ("b", "a")])
        values = led(large, ["a", "b", "a"], [1, 2, 3, 4, 5])[-1]
        self.assertEqual(led(large, ["a"], values)[0], talk.led(values))
        self.assertEqual(talk >> talk, done(large.with_step("a", "a"), ["a", "a"]))
        self.assertEqual(str(large).split("\n")[0], f"talk a {talk}")
        self.assertEqual(end(talk, values), end(talk, talk.led(values)))
        self.assertEqual((settled(large), how_counts(large, 0)), (weights(talk), "always"))
        self.assertEqual(slowest(large, 2), factor(done(large, slow_row(large, 2))))
        self.assertEqual((strikes(large), adds(large), swaps(large)), (((),), (), (("a", "b"),)))
        self.assertIs(alike(large, large), True)
        self.assertEqual(Live(large, values).several(["b", "a"])[-1], spread(led(large, ["b", "a"], values)[-1]))
        regular = done(full(3), ["c", "e", "d", "c"] * 10)
        behind = regular.led(values[:3])
        self.assertEqual(told_back(regular, behind), values[:3])
        self.assertEqual(first_of(full(3), ["c", "e", "d", "c"] * 10, behind), values[:3])
        self.assertEqual(spread(weights(done(full(5), ["b"] * 40))), spread(weights(full(5)["b"])))


if __name__ == "__main__":
    unittest.main()
