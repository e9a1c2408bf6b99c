"""Points [20] and [21]: desks."""

import contextlib
import itertools
import re
import sys
import unittest

from samples import (
    PAIRS_TEXT, alone, firm, five, free, full, nowhere, odd_values, one_talk, pairs, raising, small_books, snapshot,
    told_books, unchanged,
)
from talkmeans.books import Book
from talkmeans.deciding import agree, split, talks_to_meet
from talkmeans.desk import Desk
from talkmeans.errors import InvalidBook, InvalidCommand, InvalidNumbers, InvalidText, NoTalk, Refused
from talkmeans.live import Live
from talkmeans.ways import led

FORM = re.compile(
    "book( [^ ]+)+|people( (0|-?[1-9][0-9]{0,5})(/[1-9][0-9]{0,5})?)+|talk [a-z]{1,6}|numbers|agree|meet|undo"
)


def told(book):
    return "book " + str(book).replace("\n", " ; ")


def with_book(book):
    desk = Desk()
    desk.say(told(book))
    return desk


def with_both(book, numbers):
    desk = with_book(book)
    desk.say("people " + numbers)
    return desk


def opened():
    return with_both(pairs(), "0 6 9/2")


def desks():
    """A desk without a book, one without people, and one with both."""
    return [Desk(), with_book(pairs()), opened()]


@contextlib.contextmanager
def staying(case, desk):
    """The rows inside leave the desk, its book and its live talk as they are."""
    book, live = desk.book, desk.live
    with unchanged(case, desk):
        yield
    case.assertIs(desk.book, book)
    case.assertIs(desk.live, live)


class Examples(unittest.TestCase):
    def test_told_by_the_document(self):
        desk = Desk()
        commands = [told(pairs()), "people 0 6 9/2", "talk left", "numbers", "agree", "meet"]
        self.assertEqual([desk.say(command) for command in commands], ["2", "open", "3/2", "3 3 9/2", "yes", "2"])

    def test_parameters(self):
        desk = Desk()
        self.assertEqual(desk.say(command="book talk a 1"), "1")

    def test_a_new_desk(self):
        desk = Desk()
        self.assertIs(desk.book, None)
        self.assertIs(desk.live, None)

    def test_two_desks(self):
        first, other = Desk(), Desk()
        first.say("book talk a 1")
        self.assertIs(other.book, None)

    def test_desks_are_not_iterable(self):
        for desk in desks():
            for call in (iter, list, tuple):
                with self.assertRaises(TypeError):
                    call(desk)

    def test_answers_are_strings(self):
        desk = Desk()
        for command in (told(pairs()), "people 1 2 3", "talk left", "numbers", "agree", "meet", "undo", "undo"):
            self.assertIs(type(desk.say(command)), str)


class TakingBooks(unittest.TestCase):
    def test_number_of_talks(self):
        for book in told_books() + small_books(40, 71) + [full(1), full(2)]:
            desk = Desk()
            self.assertEqual(desk.say(told(book)), str(len(book.talks)))
            self.assertEqual(desk.book, book)
            self.assertIs(desk.live, None)

    def test_another_book_ends_the_live_talk(self):
        desk = opened()
        self.assertEqual(desk.say(told(five())), "3")
        self.assertEqual(desk.book, five())
        self.assertIs(desk.live, None)
        for command in ("talk a", "numbers", "undo"):
            with raising(self, InvalidCommand):
                desk.say(command)

    def test_the_same_book_ends_it_too(self):
        desk = opened()
        desk.say(told(pairs()))
        self.assertEqual(desk.book, pairs())
        self.assertIs(desk.live, None)

    def check_text(self, text, read):
        """The desk takes the text as Book.read takes what it is read as."""
        for desk in desks():
            try:
                book = Book.read(read)
            except InvalidText as error:
                with staying(self, desk), raising(self, InvalidText, at=error.at):
                    desk.say("book " + text)
            except InvalidBook as error:
                with staying(self, desk), raising(self, InvalidBook, word=error.word):
                    desk.say("book " + text)
            else:
                self.assertEqual(desk.say("book " + text), str(len(book.talks)))
                self.assertEqual(desk.book, book)

    def test_semicolons(self):
        self.check_text("talk a 1", "talk a 1")
        self.check_text("talk a 1 ; talk b 1 ; behind a b", "talk a 1\ntalk b 1\nbehind a b")
        # Replaced from left to right: a space that is used up does not count again.
        self.check_text("talk a 1 ; ; behind a a", "talk a 1\n; behind a a")
        self.check_text("talk a 1 ; ; ; behind a a", "talk a 1\n;\nbehind a a")
        self.check_text("; talk a 1", "; talk a 1")
        self.check_text("talk a 1 ;", "talk a 1 ;")
        self.check_text("talk a 1; behind a a", "talk a 1; behind a a")
        self.check_text("talk a 1 ;behind a a", "talk a 1 ;behind a a")
        self.check_text(";", ";")
        self.check_text("; ; ;", ";\n;")

    def test_errors_of_books(self):
        self.check_text("book", "book")
        self.check_text("talk a 1 ; talk b", "talk a 1\ntalk b")
        self.check_text("talk a 1 ; behind a a ; talk b 1", "talk a 1\nbehind a a\ntalk b 1")
        self.check_text("talk a 1 1, 1", "talk a 1 1, 1")
        self.check_text("talk a 1 ; talk a 1", "talk a 1\ntalk a 1")
        self.check_text("behind a a", "behind a a")
        self.check_text("talk a 1 ; behind a b", "talk a 1\nbehind a b")
        self.check_text("talk a 1 ; behind a a ; behind a a", "talk a 1\nbehind a a\nbehind a a")
        self.check_text("talk a 1\t", "talk a 1\t")

    def test_which_errors(self):
        desk = Desk()
        with raising(self, InvalidText, at=1):
            desk.say("book talk a 1 ; nothing")
        with raising(self, InvalidBook, word="talks"):
            desk.say("book behind a a")
        with raising(self, InvalidBook, word="steps"):
            desk.say("book talk a 1 ; behind a b")
        self.assertIs(desk.book, None)


class People(unittest.TestCase):
    def test_values(self):
        for words, numbers in [
            ("0 6 9", (0, 6, 9)), ("9/2 -9/2 4/2", ((9, 2), (-9, 2), (4, 2))), ("0/5 7/1 -1/1", ((0, 5), 7, -1)),
            ("999999 -999999 1/999999", (999999, -999999, (1, 999999))), ("-999999/999999 100000 10", (-1, 100000, 10)),
        ]:
            desk = with_book(pairs())
            self.assertEqual(desk.say("people " + words), "open")
            self.assertIs(type(desk.live), Live)
            self.assertEqual(snapshot(desk.live), snapshot(Live(pairs(), numbers)))

    def test_another_live_talk(self):
        desk = opened()
        desk.say("talk left")
        ahead = desk.live
        self.assertEqual(desk.say("people 1 2 3"), "open")
        self.assertIsNot(desk.live, ahead)
        self.assertEqual((desk.live.row, len(desk.live)), ((), 0))
        self.assertEqual(desk.say("undo"), "nothing")
        self.assertEqual(desk.say("numbers"), "1 2 3")
        self.assertEqual(ahead.row, ("left",))

    def test_one_person(self):
        desk = with_both(alone(), "-7/21")
        self.assertEqual([desk.say(word) for word in ("numbers", "talk a", "talk b", "numbers")],
                         ["-1/3", "0", "0", "-1/3"])

    def test_as_many_as_there_are_people(self):
        for desk in desks()[1:]:
            for words in ("1", "1 2", "1 2 3 4", "1/2 3/4"):
                with staying(self, desk), raising(self, InvalidNumbers, at=0):
                    desk.say("people " + words)

    def test_words_that_are_no_values(self):
        wrong = ["a", "-", "--1", "+1", "01", "-01", "00", "-0", "-0/1", "1000000", "-1000000", "0000001", "1.0", "1e3",
                 "1_0", "1/", "/1", "/", "1/0", "1/-1", "1/01", "1/1000000", "1/2/3", "1//2", "1/+2", "1,", "(1,2)",
                 "1/a", "a/1", "-1/-2", "0x1", "1\t", "\u0661", "1/\u0661", "\u00b2", "True", "None"]
        for desk in desks():
            for word in wrong:
                for words in ([word, "1", "2"], ["0", word, "2"], ["0", "1", word], [word]):
                    with staying(self, desk), raising(self, InvalidCommand):
                        desk.say("people " + " ".join(words))


class Talking(unittest.TestCase):
    def test_spreads(self):
        desk = opened()
        self.assertEqual([desk.say("talk " + name) for name in ("left", "right", "left")], ["3/2", "3/4", "3/8"])
        self.assertEqual(desk.live.row, ("left", "right", "left"))
        self.assertEqual(desk.say("numbers"), "27/8 27/8 15/4")

    def test_no_talk_and_refused(self):
        desk = opened()
        for name in ("up", "a", "abcdef", "lefts"):
            with staying(self, desk), raising(self, NoTalk, name=name):
                desk.say("talk " + name)
        desk.say("talk left")
        with staying(self, desk), raising(self, Refused, at=1):
            desk.say("talk left")
        with staying(self, desk), raising(self, NoTalk, name="up"):
            desk.say("talk up")
        desk.say("talk right")
        with staying(self, desk), raising(self, Refused, at=2):
            desk.say("talk right")
        self.assertEqual(desk.say("talk left"), "3/8")

    def test_names_of_no_form(self):
        for name in ("Left", "lefttoo", "left1", "le-ft", "1", "", ";"):
            for desk in desks():
                with staying(self, desk), raising(self, InvalidCommand):
                    desk.say("talk " + name)

    def test_numbers(self):
        desk = with_both(five(), "1/2 -3 0 8/4 -6/4")
        self.assertEqual(desk.say("numbers"), "1/2 -3 0 2 -3/2")
        desk.say("talk c")
        desk.say("talk a")
        behind = led(five(), ["c", "a"], [(1, 2), -3, 0, 2, (-3, 2)])[-1]
        words = [str(top) if bottom == 1 else f"{top}/{bottom}" for top, bottom in behind]
        self.assertEqual(desk.say("numbers"), " ".join(words))

    def test_undo(self):
        desk = opened()
        self.assertEqual(desk.say("undo"), "nothing")
        desk.say("talk left")
        desk.say("talk right")
        answers = [desk.say(word) for word in ("undo", "numbers", "undo", "numbers", "undo", "undo")]
        self.assertEqual(answers, ["undone", "3 3 9/2", "undone", "0 6 9/2", "nothing", "nothing"])
        self.assertIs(type(desk.live), Live)

    def test_the_live_talk_itself(self):
        desk = opened()
        self.assertEqual(desk.live.several(["left", "right"]), ((3, 2), (3, 4)))
        self.assertEqual(desk.say("numbers"), "3 15/4 15/4")
        desk.live.firm([0])
        self.assertEqual(desk.say("talk left"), "3/4")
        self.assertEqual([desk.say("undo") for _ in range(4)], ["undone"] * 3 + ["nothing"])

    def test_the_book_of_the_desk_stays_beside_that_of_the_live_talk(self):
        desk = opened()
        desk.live.change(free().firm([0]))
        self.assertEqual(desk.book, pairs())
        self.assertEqual((desk.say("agree"), desk.say("meet")), ("yes", "2"))
        self.assertEqual([desk.say("talk left"), desk.say("talk left")], ["9/2", "9/2"])
        desk.say("people 0 6 9/2")
        self.assertEqual(desk.live.book, pairs())
        desk.say("talk left")
        with raising(self, Refused, at=1):
            desk.say("talk left")

    def test_sixty_talks(self):
        text = "talk a 9 8 7 6 5, 1 2 3 4 5, 0 0 1 9 9, 9 9 0 7 1, 3 4 0 5 1 ; behind a a"
        desk = Desk()
        desk.say("book " + text)
        desk.say("people 999999/999998 -1/999997 3/999983 0 7/999979")
        spreads = [desk.say("talk a") for _ in range(60)]
        top, bottom = desk.live.numbers[2]
        self.assertEqual(desk.say("numbers").split(" ")[2], f"{top}/{bottom}")
        self.assertGreater(len(spreads[-1]), 400)

    def test_numbers_too_long_for_python_to_write_at_once(self):
        desk = Desk()
        desk.say("book talk a 999999937 999999929 1, 1 999999893 7, 3 1 999999883 ; behind a a")
        desk.say("people -1 -2 -1/7")
        desk.live.several(["a"] * 300)
        numbers, answer = desk.live.numbers, desk.say("numbers")
        self.assertGreater(numbers[0][1].bit_length(), 20000)
        self.assertLess(numbers[0][0], 0)
        limit = sys.get_int_max_str_digits()
        sys.set_int_max_str_digits(0)
        try:
            self.assertEqual(answer, " ".join(f"{top}/{bottom}" for top, bottom in numbers))
        finally:
            sys.set_int_max_str_digits(limit)
        self.assertIn("/", desk.say("talk a"))


class Deciding(unittest.TestCase):
    def test_agree_and_meet(self):
        outcomes = set()
        for book in told_books() + small_books(80, 72) + [full(2), full(4)]:
            desk = with_book(book)
            for _ in range(2):
                answer, meet = desk.say("agree"), desk.say("meet")
                if agree(book):
                    self.assertEqual((answer, meet), ("yes", str(talks_to_meet(book))))
                else:
                    self.assertEqual(meet, "never")
                    word, *ring = answer.split(" ")
                    self.assertEqual(word, "no")
                    self.check_ring(book, ring)
                outcomes.add((answer.split(" ")[0], meet))
                # The same with a live talk.
                desk.say("people " + " ".join("1" * book.people))
        self.assertLessEqual({("yes", "0"), ("yes", "1"), ("yes", "2"), ("no", "never")}, outcomes)

    def check_ring(self, book, ring):
        found, first, second = split(book)
        self.assertEqual(len(ring), len(found))
        self.assertLessEqual(set(zip(ring, ring[1:] + ring[:1])), set(book.steps))
        lots = [lot for k in range(1, book.people) for lot in itertools.combinations(range(book.people), k)]
        closed = [lot for lot in lots if all(book[name].closes(lot) for name in ring)]
        self.assertTrue(any(not set(p) & set(q) for p in closed for q in closed))

    def test_told_by_hand(self):
        self.assertEqual(with_book(free()).say("agree"), "no left")
        self.assertEqual(with_book(free()).say("meet"), "never")
        self.assertEqual(with_book(firm()).say("agree"), "no c")
        self.assertEqual(with_book(one_talk()).say("agree"), "no a")
        self.assertEqual(with_book(alone()).say("meet"), "0")
        self.assertEqual(with_book(nowhere()).say("agree"), "yes")
        ring = with_book(pairs().firm([0, 2])).say("agree")
        self.assertIn(ring, ("no left right", "no right left"))

    def test_neither_changes_anything(self):
        for desk in desks()[1:]:
            with staying(self, desk):
                for word in ("agree", "meet"):
                    self.assertEqual(desk.say(word), desk.say(word))


class Commands(unittest.TestCase):
    def test_any_value_at_all(self):
        for desk in desks():
            for value in odd_values() + [desk, [told(pairs())], ("undo",), b"undo", ["numbers"]]:
                with staying(self, desk), unchanged(self, value), raising(self, InvalidCommand):
                    desk.say(value)

    def test_of_no_form(self):
        commands = [
            "", " ", "  ", "book", "book ", "book  talk a 1", " book talk a 1", "book talk a 1 ", "book talk  a 1",
            "Book talk a 1", "books talk a 1", "book\ttalk a 1", "people", "people ", "people  1 2 3", "people 1  2 3",
            "people 1 2 3 ", " people 1 2 3", "People 1 2 3", "talk", "talk ", "talk left right", "talk left ",
            " talk left", "talk  left", "TALK left", "numbers ", " numbers", "numbers 1", "agree now", "agree ",
            "meet 2", "meet left", "undo 1", "undo undo", "Undo", "do left", "several left right", "firm 0", "quit",
            "left", "change", "within", "agree;", "numbers ; undo", "-", "\t", "bookx", "say undo",
        ]
        for desk in desks():
            for command in commands:
                with staying(self, desk), raising(self, InvalidCommand):
                    desk.say(command)

    def test_newlines(self):
        for desk in desks():
            for command in (told(pairs()), "people 0 6 9", "talk left", "numbers", "agree", "meet", "undo"):
                for text in (command + "\n", "\n" + command, command.replace(" ", "\n", 1) + "\n", command + "\nundo"):
                    with staying(self, desk), raising(self, InvalidCommand):
                        desk.say(text)
            with staying(self, desk), raising(self, InvalidCommand):
                desk.say("book " + PAIRS_TEXT)

    def test_without_a_book(self):
        desk = Desk()
        for command in ("people 0 6 9", "people 1", "talk left", "numbers", "agree", "meet", "undo"):
            with staying(self, desk), raising(self, InvalidCommand):
                desk.say(command)
        with staying(self, desk), raising(self, InvalidText, at=0):
            desk.say("book x")
        with staying(self, desk), raising(self, InvalidCommand):
            desk.say("agree")

    def test_without_a_live_talk(self):
        desk = with_book(pairs())
        for command in ("talk left", "talk up", "numbers", "undo"):
            with staying(self, desk), raising(self, InvalidCommand):
                desk.say(command)
        self.assertEqual((desk.say("agree"), desk.say("meet"), desk.say("people 1 2 3")), ("yes", "2", "open"))

    def test_all_short_commands(self):
        """Each sequence of up to three of some words is done just if it has one of the forms."""
        words = ["book", "people", "talk", "numbers", "agree", "meet", "undo", "left", "1", "-2/3", ";", "", "x1"]
        for k in range(1, 4):
            for chosen in itertools.product(words, repeat=k):
                command = " ".join(chosen)
                desk = opened()
                try:
                    desk.say(command)
                    found = True
                except InvalidCommand:
                    found = False
                except (InvalidText, InvalidBook, InvalidNumbers, NoTalk, Refused):
                    found = True
                self.assertIs(found, FORM.fullmatch(command) is not None, command)

    def test_a_long_text(self):
        text = told(full(4))
        desk = Desk()
        self.assertGreater(len(text), 500)
        self.assertEqual(desk.say(text), "5")
        with staying(self, desk), raising(self, InvalidText, at=0):
            desk.say("book " + "a" * 2000)


if __name__ == "__main__":
    unittest.main()
