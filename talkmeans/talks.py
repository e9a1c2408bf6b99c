"""Talks, in which each person takes a mean of some people's numbers."""

from talkmeans.errors import InvalidLot, InvalidTalk, InvalidText
from talkmeans.kinds import (
    checked_numbers,
    common_divisor,
    common_multiple,
    is_lot,
    is_number,
    is_number_word,
    is_sequence,
    means,
)

LONGEST_WEIGHT = 9


class Talk:
    """A talk: a row of weights for each person."""

    def __init__(self, rows):
        wrong = first_wrong_row(rows)
        if wrong is not None:
            raise InvalidTalk(wrong)
        self.rows = tuple([normal_row(row) for row in rows])

    @classmethod
    def read(cls, text):
        """The talk with this text."""
        rows = [part.split(" ") for part in text.split(", ")]
        for at, row in enumerate(rows):
            if not all([is_number_word(word, LONGEST_WEIGHT) for word in row]):
                raise InvalidText(at)
        return cls([[int(word) for word in words] for words in rows])

    def heeds(self, i):
        """The lot of those whose numbers count for the person i."""
        return tuple([j for j, weight in enumerate(self.rows[i]) if weight > 0])

    def led(self, numbers):
        """The values behind the talk, if these are the numbers ahead of it."""
        pairs = checked_numbers(numbers, len(self.rows))
        return means(self.rows, pairs)

    def closes(self, lot):
        """Whether nobody of the lot heeds anybody outside of it."""
        if not is_lot(lot, len(self.rows)):
            raise InvalidLot()
        return all([j in lot for i in lot for j in self.heeds(i)])

    def firm(self, lot):
        """The talk in which the people of the lot heed only themselves."""
        many = len(self.rows)
        if not is_lot(lot, many):
            raise InvalidLot()
        return Talk([own_row(i, many) if i in lot else row for i, row in enumerate(self.rows)])

    def __len__(self):
        return len(self.rows)

    def __rshift__(self, other):
        return Talk(rows_behind(self.rows, other.rows))

    def __eq__(self, other):
        return isinstance(other, Talk) and self.rows == other.rows

    def __str__(self):
        return ", ".join([" ".join([str(weight) for weight in row]) for row in self.rows])


def first_wrong_row(rows):
    """The number of the first row that is wrong, or None."""
    if not is_sequence(rows) or len(rows) == 0:
        return 0
    for at, row in enumerate(rows):
        if not is_row_of(row, at, len(rows)):
            return at
    return None


def is_row_of(row, person, people):
    """Whether any value at all is the row of a person among so many people."""
    if not is_sequence(row) or len(row) != people:
        return False
    return all([is_number(weight) for weight in row]) and row[person] > 0


def normal_row(row):
    divisor = common_divisor(row)
    return tuple([weight // divisor for weight in row])


def own_row(person, people):
    """The row of a person among so many people who heeds nobody else."""
    return [1 if j == person else 0 for j in range(people)]


def rows_behind(first, then):
    """Rows of the talk that does what the rows first and then the rows then do."""
    even = even_rows(first)
    return [mixed_row(weights, even) for weights in then]


def even_rows(rows):
    """The rows, each times a number, so that all have one sum."""
    # Weights with one sum are to each other as the shares, so that no fractions are needed.
    total = common_multiple([sum(row) for row in rows])
    return [[weight * (total // sum(row)) for weight in row] for row in rows]


def mixed_row(weights, rows):
    """The sum of the rows, each times its weight."""
    return [sum([weight * row[j] for weight, row in zip(weights, rows)]) for j in range(len(rows))]
