"""Point [13]: papers."""

import random
import unittest

from oracles import all_agree, is_right, lots_apart
from samples import (
    alone, deep, firm, five, free, full, is_plain, led_by, nowhere, odd_values, pairs, small_books, told_books,
    unchanged,
)
from talkmeans.books import Book
from talkmeans.papers import paper, paper_holds
from talkmeans.talks import Talk

BOOKS = told_books() + small_books(300, 21)

# Ranks that a step leads down, entries for three pairs of lots.
STEPPED = "talk a 1 0 0, 1 1 0, 0 0 1\ntalk b 1 0 0, 0 1 0, 0 0 1\nbehind a b"


def stepped():
    return Book.read(STEPPED)


def large():
    """Five people, five talks, no ring: as many entries as there can be."""
    talk = Talk([[1 if i == j else 0 for j in range(5)] for i in range(5)])
    return Book([(name, talk) for name in "abcde"], [(p, q) for p in "abcde" for q in "abcde" if p < q])


class Paper(unittest.TestCase):
    def test_examples(self):
        self.assertEqual(len(paper(pairs())), 2)
        self.assertIs(paper(free()), None)
        self.assertIs(paper_holds(pairs(), paper(pairs())), True)
        self.assertIs(paper_holds(free(), paper(pairs())), False)
        self.assertEqual(paper(book=pairs()), paper(pairs()))
        self.assertIs(paper_holds(book=pairs(), value=paper(pairs())), True)

    def test_many_books(self):
        entries = 0
        for book in BOOKS:
            found = paper(book)
            self.assertEqual(found is None, not all_agree(book), str(book))
            if found is not None:
                self.assertTrue(is_plain(found))
                self.assertTrue(is_right(book, found), str(book))
                self.assertTrue(all(entry[3] >= 0 for entry in found))
                self.assertIs(paper_holds(book, found), True)
                entries += len(found)
        self.assertGreater(entries, 200)

    def test_no_lots_that_are_closed(self):
        for book in (alone(), Book.read("talk a 1"), Book.read("talk a 1 1, 1 1\nbehind a a"), led_by()):
            self.assertEqual(paper(book), ())
            self.assertIs(paper_holds(book, ()), True)
            self.assertIs(paper_holds(book, []), False)

    def test_all_firm(self):
        self.assertIs(paper(firm()), None)
        ((first, second, name, _),) = paper(Book.read("talk a 1 0, 0 1"))
        self.assertEqual((first, second, name), ((0,), (1,), "a"))
        self.assertEqual(len(paper(large())), 450)
        self.assertIs(paper_holds(large(), paper(large())), True)

    def test_steps_that_lead_nowhere(self):
        self.assertTrue(is_right(nowhere(), paper(nowhere())))
        self.assertTrue(is_right(stepped(), paper(stepped())))

    def test_five_people(self):
        self.assertIs(paper(five()), None)
        self.assertTrue(is_right(full(5), paper(full(5))))
        apart = Book([("a", large()["a"]), ("b", full(5)["b"])], [("a", "b"), ("b", "a")])
        self.assertEqual(len(paper(apart)), 90)
        self.assertTrue(is_right(apart, paper(apart)))


class Holds(unittest.TestCase):
    def told(self):
        """A right paper of the book stepped(), told by hand."""
        lots = lots_apart(3)
        entries = [(p, q, "b", 0) for p, q in lots]
        closed = [(p, q) for p, q in lots if all(0 in lot or 1 not in lot for lot in (p, q))]
        return tuple(entries + [(p, q, "a", 1) for p, q in closed])

    def test_told_by_hand(self):
        found = self.told()
        self.assertEqual(len(found), 6 + 2)
        self.assertTrue(is_right(stepped(), found))
        self.assertIs(paper_holds(stepped(), found), True)

    def test_any_order(self):
        rolls = random.Random(22)
        for book in (stepped(), pairs(), nowhere(), large()):
            entries = list(paper(book))
            for _ in range(5):
                rolls.shuffle(entries)
                self.assertIs(paper_holds(book, tuple(entries)), True)

    def test_any_ranks_that_fall(self):
        found = self.told()
        raised = tuple((p, q, name, 10**12 + 7 * rank) for p, q, name, rank in found)
        self.assertIs(paper_holds(stepped(), raised), True)
        # Where no step of the same two lots is, no rank is too large.
        alone_there = tuple((p, q, name, rank + (q == (1,)) * 9) for p, q, name, rank in found)
        self.assertIs(paper_holds(stepped(), alone_there), True)

    def test_ranks_below_0(self):
        # They fall along each step, but they are no numbers.
        found = self.told()
        for at, (p, q, name, rank) in enumerate(found):
            if name == "b":
                self.assertIs(paper_holds(stepped(), found[:at] + ((p, q, name, -1),) + found[at + 1:]), False)
        lower = tuple((p, q, name, rank - 9) for p, q, name, rank in found)
        self.assertIs(paper_holds(stepped(), lower), False)

    def test_ranks_that_do_not_fall(self):
        found = self.told()
        for at, (p, q, name, rank) in enumerate(found):
            has_both = sum(1 for entry in found if entry[:2] == (p, q)) == 2
            for other in range(4):
                changed = found[:at] + ((p, q, name, other),) + found[at + 1:]
                falls = not has_both or (other > 0 if name == "a" else other < 1)
                self.assertIs(paper_holds(stepped(), changed), falls)
        self.assertIs(paper_holds(stepped().with_step("b", "a"), found), False)
        self.assertIs(paper_holds(stepped().with_step("a", "a"), found), False)
        self.assertIs(paper_holds(stepped().with_step("b", "b"), found), False)

    def test_changed_ranks_in_many_books(self):
        rolls, found = random.Random(23), []
        for book in BOOKS:
            right = paper(book)
            for _ in range(6 if right else 0):
                changed = tuple(entry[:3] + (rolls.randint(0, 2),) for entry in right)
                found.append(paper_holds(book, changed))
                self.assertIs(found[-1], is_right(book, changed))
        self.assertGreater(found.count(True), 50)
        self.assertGreater(found.count(False), 50)

    def test_papers_of_other_books(self):
        papers = [right for right in map(paper, BOOKS[:120]) if right is not None]
        found = []
        for book in BOOKS[:120]:
            for right in papers:
                if any(max(p + q) >= book.people for p, q, _, _ in right):
                    told = False
                else:
                    told = is_right(book, right)
                found.append(paper_holds(book, right))
                self.assertIs(found[-1], told)
        self.assertGreater(found.count(True), 100)
        self.assertGreater(found.count(False), 1000)

    def test_a_missing_entry(self):
        for book in (stepped(), pairs(), nowhere(), large()):
            right = paper(book)
            for at in range(0, len(right), 7):
                self.assertIs(paper_holds(book, right[:at] + right[at + 1:]), False)
            self.assertIs(paper_holds(book, ()), False)

    def test_one_entry_too_many(self):
        right = self.told()
        for entry in right:
            self.assertIs(paper_holds(stepped(), right + (entry,)), False)
            self.assertIs(paper_holds(stepped(), right + (entry[:3] + (entry[3] + 1,),)), False)
        more = [((0,), (0,), "b", 0), ((1,), (0,), "b", 0), ((), (0,), "b", 0), ((0,), (), "b", 0), ((), (), "b", 0)]
        more += [((0, 1), (1, 2), "b", 0), ((0,), (1,), "a", 5), ((0,), (1,), "c", 0), ((0,), (3,), "b", 0)]
        more += [((-1,), (0,), "b", 0), ((0, 0), (1,), "b", 0), ((1, 0), (2,), "b", 0), ((0,), (2, 1), "b", 0)]
        more += [((0,), (1,), "", 0), ((0,), (1,), "B", 0)]
        for entry in more:
            self.assertIs(paper_holds(stepped(), right + (entry,)), False)
            self.assertIs(paper_holds(stepped(), (entry,) + right), False)
            for at in range(len(right)):
                # As many entries as a right paper has, but one of them is another one.
                self.assertIs(paper_holds(stepped(), right[:at] + (entry,) + right[at + 1:]), False)

    def test_one_twice_and_one_missing(self):
        right = self.told()
        for at in range(len(right)):
            other = right[at - 1]
            self.assertIs(paper_holds(stepped(), right[:at] + (other,) + right[at + 1:]), False)

    def test_entries_of_no_form(self):
        right = self.told()
        p, q, name, rank = right[-1]
        wrong = [[p, q, name, rank], (p, q, name), (p, q, name, rank, 0), (list(p), q, name, rank),
                 (p, list(q), name, rank), (q, p, name, rank), (name, p, q, rank), (p, q, rank, name), (p, q, name, -1),
                 (p, q, name, True), (p, q, name, False), (p, q, name, None), (p, q, name, "1"), (p, q, name, (1,)),
                 (p, q, [name], rank), (p, q, (name,), rank), (p, q, None, rank), (p, q, True, rank),
                 (p, q, stepped()["a"], rank), (p, q, stepped(), rank), (p, None, name, rank), (0, q, name, rank),
                 ((False,), q, name, rank), (p, (True,), name, rank), (("0",), q, name, rank), ((None,), q, name, rank),
                 (((0,),), q, name, rank), (([0],), q, name, rank), ((p,), (q,), name, rank), (p + q, name, rank),
                 (p, q, name, stepped()), (p, q, name, [rank]), p + q + (name, rank), ((p, q), name, rank)]
        for entry in wrong + odd_values():
            self.assertIs(paper_holds(stepped(), right[:-1] + (entry,)), False)
            self.assertIs(paper_holds(stepped(), right + (entry,)), False)
            self.assertIs(paper_holds(stepped(), (entry,)), False)
            self.assertIs(paper_holds(alone(), (entry,)), False)

    def test_bools_are_no_people_and_no_ranks(self):
        book = Book.read("talk a 1 0, 0 1")
        self.assertIs(paper_holds(book, (((0,), (1,), "a", 0),)), True)
        self.assertIs(paper_holds(book, (((0,), (1,), "a", 1),)), True)
        self.assertIs(paper_holds(book, (((False,), (1,), "a", 0),)), False)
        self.assertIs(paper_holds(book, (((0,), (True,), "a", 0),)), False)
        self.assertIs(paper_holds(book, (((0,), (1,), "a", False),)), False)
        self.assertIs(paper_holds(book, (((0,), (1,), "a", True),)), False)

    def test_any_value_at_all(self):
        for book in (pairs(), alone(), led_by(), free(), large()):
            for value in odd_values() + [deep(k) for k in range(9)] + [list(paper(pairs())), {}, set()]:
                told = value == () and type(value) is tuple and book in (alone(), led_by())
                self.assertIs(paper_holds(book, value), told)

    def test_never_if_the_book_does_not_agree(self):
        for book in BOOKS:
            if paper(book) is None:
                entries = [(p, q, name, 0) for p, q in lots_apart(book.people) for name in book.names]
                self.assertIs(paper_holds(book, tuple(entries)), False)
                self.assertIs(paper_holds(book, ()), False)

    def test_more_entries_than_told(self):
        entries = paper(large()) * 2
        self.assertIs(paper_holds(large(), entries), False)
        self.assertIs(paper_holds(full(5), entries), False)


class Unchanged(unittest.TestCase):
    def test_books_and_values_stay(self):
        for book in told_books() + small_books(20, 24):
            value = [list(entry) for entry in paper(stepped())]
            wrong = tuple([(list(p), q, name, rank) for p, q, name, rank in paper(stepped())])
            with unchanged(self, book, value, wrong):
                self.assertEqual(paper(book), paper(book))
                self.assertIs(paper_holds(book, value), False)
                self.assertIs(paper_holds(book, wrong), False)
                paper_holds(book, paper(book))


if __name__ == "__main__":
    unittest.main()
