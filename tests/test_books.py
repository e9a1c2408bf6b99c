"""Points [8] and [9]: books."""

import unittest

from samples import PAIRS_TEXT, five, odd_values, pairs, raising
from talkmeans.books import Book
from talkmeans.errors import InvalidBook, InvalidLot, InvalidText, NoTalk
from talkmeans.talks import Talk
from talkmeans.ways import done

LEFT = Talk.read("1 1 0, 1 1 0, 0 0 1")
RIGHT = Talk.read("1 0 0, 0 1 1, 0 1 1")


class Made(unittest.TestCase):
    def test_attributes_and_properties(self):
        steps = [("right", "left"), ("left", "right"), ("left", "left")]
        book = Book([("right", RIGHT), ("left", LEFT)], steps)
        self.assertEqual(book.talks, (("right", RIGHT), ("left", LEFT)))
        self.assertEqual(book.steps, (("left", "left"), ("left", "right"), ("right", "left")))
        self.assertEqual(book.names, ("right", "left"))
        self.assertEqual(book.people, 3)
        for value in (book.talks, book.steps, book.names):
            self.assertIs(type(value), tuple)
        self.assertEqual(steps, [("right", "left"), ("left", "right"), ("left", "left")])

    def test_no_steps(self):
        self.assertEqual(Book([("a", LEFT)]).steps, ())
        self.assertEqual(Book([("a", LEFT)], []).steps, ())
        self.assertEqual(Book(talks=(("a", LEFT),), steps=()).names, ("a",))

    def test_one_and_five_people(self):
        self.assertEqual(Book([("a", Talk([[3]]))]).people, 1)
        self.assertEqual(five().people, 5)

    def test_names_of_one_and_of_six_letters(self):
        self.assertEqual(Book([("z", LEFT), ("azazaz", LEFT)]).names, ("z", "azazaz"))

    def test_more_talks_than_told(self):
        names = ["a", "b", "c", "d", "e", "f", "g"]
        self.assertEqual(Book([(name, LEFT) for name in names]).names, tuple(names))

    def test_later_changes_have_no_effect(self):
        talks, steps = [("a", LEFT), ("b", RIGHT)], [("a", "b")]
        book = Book(talks, steps)
        talks.pop()
        talks[0] = ("c", RIGHT)
        steps.append(("b", "a"))
        self.assertEqual(str(book), f"talk a {LEFT}\ntalk b {RIGHT}\nbehind a b")

    def test_wrong_talks(self):
        one, other = ("a", LEFT), ("b", RIGHT)
        wrong = [[list(one)], [("a", LEFT, 1)], [("a",)], [LEFT], [(LEFT, "a")], ["ab"], one, {"a": LEFT}]
        wrong += [[(name, LEFT)] for name in ("", "abcdefg", "A", "a1", "a b", "a\n", "\u00e4", 1, None, ["a"])]
        wrong += [[("a", talk)] for talk in (LEFT.rows, str(LEFT), None, pairs())]
        wrong += [[one, ("a", RIGHT)], [one, one], [one, other, one], [one, None], [one, ("b", Talk([[1]]))]]
        for talks in wrong + odd_values():
            with raising(self, InvalidBook, word="talks"):
                Book(talks)
            with raising(self, InvalidBook, word="talks"):
                Book(talks, None)
        for value in odd_values():
            # A talk of three people does not go together with one of one person.
            with raising(self, InvalidBook, word="talks"):
                Book([("b", Talk([[1]])), value])
            if not isinstance(value, Talk):
                with raising(self, InvalidBook, word="talks"):
                    Book([("a", value)])

    def test_wrong_steps(self):
        talks = [("a", LEFT), ("b", RIGHT)]
        one, other = ("a", "b"), ("b", "a")
        wrong = [[list(one)], ["ab"], "ab", one, {one}, {"a": "b"}, [one, None], [one, ["a", "a"]], [("a",)]]
        wrong += [[("a", "c")], [("c", "a")], [("a", "b", "a")], [("a", "B")], [("a", "")], [("a", None)]]
        wrong += [[one, one], [one, other, one], [("a", ["b"])], [(LEFT, RIGHT)], [(0, 1)]]
        wrong += [value for value in odd_values() if value not in ([], (), [("a", "b")])]
        for steps in wrong:
            with raising(self, InvalidBook, word="steps"):
                Book(talks, steps)
        for value in odd_values():
            with raising(self, InvalidBook, word="steps"):
                Book(talks, [("a", "b"), ("b", value) if value != "a" else ("a", "b")])


class Asked(unittest.TestCase):
    def test_talks_by_name(self):
        self.assertEqual(pairs()["left"], LEFT)
        self.assertEqual(pairs()["right"], RIGHT)

    def test_behind(self):
        book = Book([("b", LEFT), ("a", RIGHT), ("c", LEFT)], [("b", "c"), ("b", "a"), ("c", "c")])
        self.assertEqual(book.behind("b"), ("a", "c"))
        self.assertEqual(book.behind(name="c"), ("c",))
        self.assertEqual(book.behind("a"), ())

    def test_no_such_talk(self):
        book = pairs()
        for value in odd_values() + ["Left", "left ", "lef", ["left"], ("left",), slice(0, 1), {}]:
            if value == "left":
                continue
            for ask in (book.__getitem__, book.behind, book.without):
                with raising(self, NoTalk, name=value):
                    ask(value)
                with self.assertRaises(NoTalk) as caught:
                    ask(value)
                self.assertIs(caught.exception.name, value)
        self.assertEqual(str(book), PAIRS_TEXT)

    def test_not_iterable(self):
        for use in (iter, list, tuple, sorted, dict, reversed, lambda value: "left" in value,
            lambda value: [*value]):
            with self.assertRaises(TypeError):
                use(pairs())
        with self.assertRaises(TypeError):
            first, then = pairs()


class Changed(unittest.TestCase):
    def test_without(self):
        book = pairs().with_step("left", "left").with_step("right", "right")
        self.assertEqual(str(book.without("right")), f"talk left {LEFT}\nbehind left left")
        self.assertEqual(str(book.without(name="left")), f"talk right {RIGHT}\nbehind right right")
        self.assertEqual(len(book.talks), 2)

    def test_without_the_only_one(self):
        book = Book([("a", LEFT)], [("a", "a")])
        with raising(self, InvalidBook, word="talks"):
            book.without("a")
        with raising(self, NoTalk, name="b"):
            book.without("b")
        self.assertEqual(book.steps, (("a", "a"),))

    def test_with_step(self):
        book = pairs()
        told = PAIRS_TEXT.replace("behind", "behind left left\nbehind", 1)
        self.assertEqual(str(book.with_step("left", "left")), told)
        self.assertEqual(book.with_step(first="right", then="left"), book)
        self.assertEqual(book.with_step("right", "right").steps[-1], ("right", "right"))
        self.assertEqual(str(book), PAIRS_TEXT)

    def test_with_step_of_no_talk(self):
        for value in odd_values():
            if value == "left":
                continue
            with raising(self, NoTalk, name=value):
                pairs().with_step(value, "left")
            with raising(self, NoTalk, name=value):
                pairs().with_step("left", value)
            with raising(self, NoTalk, name=value):
                pairs().with_step(value, "nobody")

    def test_heeding(self):
        book = pairs()
        self.assertEqual(str(book.heeding("left", 0, 2)["left"]), "1 1 1, 1 1 0, 0 0 1")
        self.assertEqual(str(book.heeding("left", 0, 1)["left"]), "1 2 0, 1 1 0, 0 0 1")
        self.assertEqual(str(book.heeding(name="right", i=0, j=0)["right"]), str(RIGHT))
        self.assertEqual(str(book.heeding("right", 1, 1)["right"]), "1 0 0, 0 2 1, 0 1 1")
        self.assertEqual(book.heeding("left", 0, 2)["right"], RIGHT)
        self.assertEqual(book.heeding("left", 0, 2).names, ("left", "right"))
        self.assertEqual(book.heeding("left", 0, 2).steps, book.steps)
        self.assertEqual(str(book), PAIRS_TEXT)

    def test_heeding_counts_from_the_normal_row(self):
        book = Book([("a", Talk([[4, 8], [0, 6]]))])
        self.assertEqual(str(book.heeding("a", 0, 1)["a"]), "1 3, 0 1")
        self.assertEqual(str(book.heeding("a", 1, 0)["a"]), "1 2, 1 1")
        self.assertEqual(str(book.heeding("a", 0, 0)["a"]), "1 1, 0 1")

    def test_heeding_in_no_talk(self):
        for value in odd_values():
            if value != "left":
                with raising(self, NoTalk, name=value):
                    pairs().heeding(value, 0, 1)

    def test_firm(self):
        book = pairs()
        told = "talk left 1 1 0, 0 1 0, 0 0 1\ntalk right 1 0 0, 0 1 0, 0 1 1\nbehind left right\nbehind right left"
        self.assertEqual(str(book.firm([1])), told)
        self.assertEqual(book.firm(lot=()), book)
        self.assertEqual(str(book.firm([2, 0, 1])["left"]), "1 0 0, 0 1 0, 0 0 1")
        self.assertEqual(str(book), PAIRS_TEXT)

    def test_firm_of_no_lot(self):
        book = pairs()
        wrong = [value for value in odd_values() if value not in ([], (), (1, 0))]
        for lot in wrong + [[3], [0, 0], [-1], [True], ["0"], {0}]:
            with raising(self, InvalidLot):
                book.firm(lot)
        self.assertEqual(str(book), PAIRS_TEXT)

    def test_put_together(self):
        first = Book([("b", LEFT), ("a", RIGHT)], [("b", "a")])
        second = Book([("c", RIGHT)], [("c", "c")])
        self.assertEqual((second + first).names, ("c", "b", "a"))
        self.assertEqual((first + second).talks, (("b", LEFT), ("a", RIGHT), ("c", RIGHT)))
        self.assertEqual((second + first).steps, (("b", "a"), ("c", "c")))
        self.assertEqual(first.names, ("b", "a"))
        self.assertIs(type(first + second), Book)


class Equal(unittest.TestCase):
    def test_equal_by_texts(self):
        self.assertEqual(pairs(), Book([("left", LEFT), ("right", RIGHT)], (("right", "left"), ("left", "right"))))
        self.assertFalse(pairs() != pairs())
        self.assertNotEqual(pairs(), Book([("right", RIGHT), ("left", LEFT)], pairs().steps))
        self.assertNotEqual(pairs(), Book([("left", LEFT), ("right", RIGHT)]))
        self.assertNotEqual(pairs(), pairs().heeding("left", 0, 2))
        self.assertEqual(Book([("a", Talk([[2, 4], [0, 1]]))]), Book([("a", Talk([[1, 2], [0, 7]]))]))

    def test_equal_to_nothing_of_another_class(self):
        book = pairs()
        for value in odd_values() + [PAIRS_TEXT, book.talks, (book.talks, book.steps)]:
            if not isinstance(value, Book):
                self.assertFalse(book == value)
                self.assertFalse(value == book)


class Texts(unittest.TestCase):
    def test_written_and_read_back(self):
        self.assertEqual(str(pairs()), PAIRS_TEXT)
        for book in [pairs(), five(), Book([("a", Talk([[1]]))]), pairs().without("left"), pairs().firm([0])]:
            self.assertEqual(Book.read(str(book)), book)
            self.assertEqual(str(Book.read(str(book))), str(book))

    def test_steps_in_any_order_talks_in_the_told_one(self):
        book = Book.read("talk b 2\ntalk a 1\nbehind b a\nbehind a a\nbehind a b")
        self.assertEqual(str(book), "talk b 1\ntalk a 1\nbehind a a\nbehind a b\nbehind b a")
        self.assertEqual(Book.read(text="talk a 1").names, ("a",))

    def test_lines_of_no_form(self):
        good = "talk a 1 0, 0 1"
        gaps = [" talk a 1 0, 0 1", "talk  a 1 0, 0 1", "talk a  1 0, 0 1", "talk a 1 0, 0 1 ", "talk a 1 0,0 1"]
        gaps += [" behind a a", "behind  a a", "behind a  a", "behind a a ", "behind a, a", "talk\ta 1"]
        words = ["talk A 1", "talk abcdefg 1", "talk a1 1", "talk \u00e4 1", "talk 1", "talk a b 1", "behind A a"]
        words += ["behind a abcdefg", "behind a 1", "Talk a 1", "talks a 1", "Behind a a", "step a a", "# a"]
        texts = ["talk b 01 0, 0 1", "talk a 1 0, 1 0", "talk a 1 0", "talk a 0 0, 0 1", "talk a 1000000000"]
        short = ["", " ", "talk", "talk a", "talk a ", "behind", "behind a", "behind a ", "behind a a a"]
        wrong = gaps + words + texts + short
        for line in wrong:
            with raising(self, InvalidText, at=0):
                Book.read(line)
            with raising(self, InvalidText, at=1):
                Book.read(good + "\n" + line)
            with raising(self, InvalidText, at=2):
                Book.read(good + "\nbehind a a\n" + line + "\n" + line)

    def test_the_empty_text_and_empty_lines(self):
        with raising(self, InvalidText, at=0):
            Book.read("")
        with raising(self, InvalidText, at=1):
            Book.read("talk a 1\n")
        with raising(self, InvalidText, at=0):
            Book.read("\ntalk a 1")
        with raising(self, InvalidText, at=1):
            Book.read("talk a 1\n\nbehind a a")

    def test_talks_behind_steps(self):
        with raising(self, InvalidText, at=2):
            Book.read("talk a 1\nbehind a b\ntalk b 1")
        with raising(self, InvalidText, at=1):
            Book.read("behind a a\ntalk a 1")

    def test_then_the_book(self):
        for text in ("behind a a", "talk a 1\ntalk a 1", "talk a 1\ntalk b 1 0, 0 1", "behind a a\nbehind a a",
                     "talk a 1\ntalk a 1\nbehind b b"):
            with raising(self, InvalidBook, word="talks"):
                Book.read(text)
        for text in ("talk a 1\nbehind a b", "talk a 1\nbehind a a\nbehind a a"):
            with raising(self, InvalidBook, word="steps"):
                Book.read(text)

    def test_text_errors_come_first(self):
        with raising(self, InvalidText, at=3):
            Book.read("talk a 1\ntalk a 1\nbehind b b\nbehind b")

    def test_texts_of_large_weights_are_not_read(self):
        large = Book([("a", done(five(), ["a", "b", "c", "c"] * 3))])
        self.assertTrue(max(max(row) for row in large["a"].rows) > 10**9)
        with raising(self, InvalidText, at=0):
            Book.read(str(large))


if __name__ == "__main__":
    unittest.main()
