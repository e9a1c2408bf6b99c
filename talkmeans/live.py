"""Live talks, in which people talk on and can take it back."""

from talkmeans.books import check_name
from talkmeans.errors import NoTalk, Refused
from talkmeans.kinds import checked_numbers
from talkmeans.shrinking import spread
from talkmeans.ways import names_behind


class Live:
    """People with numbers, who do talks from a book."""

    def __init__(self, book, numbers):
        self.numbers = checked_numbers(numbers, book.people)
        self.book = book
        self.row = ()
        # For each deed (book, row, numbers) ahead of it. No list, as within keeps it while work goes on.
        self.past = ()

    def do(self, name):
        """The spread behind this talk, which is done now."""
        check_next(self.book, self.row, name)
        self.become(self.book, self.row + (name,), self.book[name].led(self.numbers))
        return spread(self.numbers)

    def several(self, names):
        """The spreads behind these talks, which are done now; all of them, or none."""
        row = self.row
        numbers = self.numbers
        spreads = []
        for at, name in enumerate(names):
            try:
                check_next(self.book, row, name)
            except (NoTalk, Refused) as e:
                raise Refused(at) from e
            row = row + (name,)
            numbers = self.book[name].led(numbers)
            spreads.append(spread(numbers))
        self.become(self.book, row, numbers)
        return tuple(spreads)

    def change(self, book):
        """From now on talks come from this book, and any of them may be the next one."""
        self.become(book, (), self.numbers)

    def firm(self, lot):
        """From now on the people of the lot are firm, and any talk may be the next one."""
        self.change(self.book.firm(lot))

    def undo(self):
        """Whether there was a deed, which is taken back now."""
        if len(self.past) == 0:
            return False
        self.book, self.row, self.numbers = self.past[-1]
        self.past = self.past[:-1]
        return True

    def within(self, work):
        """What the work returns; whatever it does here is taken back."""
        book, row, numbers, past = self.book, self.row, self.numbers, self.past
        try:
            return work(self)
        finally:
            self.book, self.row, self.numbers, self.past = book, row, numbers, past

    def become(self, book, row, numbers):
        """One more deed, behind which it is so."""
        self.past = self.past + ((self.book, self.row, self.numbers),)
        self.book, self.row, self.numbers = book, row, numbers

    def __len__(self):
        return len(self.past)


def check_next(book, row, name):
    """NoTalk or Refused, if no talk with this name can come behind the row."""
    check_name(book, name)
    if name not in names_behind(book, row):
        raise Refused(len(row))
