"""Kinds of values: what is a number, a name, a value or a lot, and means of values."""

from math import gcd, lcm

from talkmeans.errors import InvalidNumbers

LETTERS = "abcdefghijklmnopqrstuvwxyz"
LONGEST_NAME = 6


def is_int(value):
    # Python counts bools among the integers, the document does not.
    return isinstance(value, int) and not isinstance(value, bool)


def is_number(value):
    return is_int(value) and value >= 0


def is_name(value):
    if not isinstance(value, str) or not 1 <= len(value) <= LONGEST_NAME:
        return False
    # islower would take letters from beyond a to z, too.
    return all([letter in LETTERS for letter in value])


def is_number_word(word, most):
    """Whether a word is a number as Python writes it, of at most so many digits."""
    # isdigit alone would take digits from beyond 0 to 9, too.
    if not word.isascii() or not word.isdigit() or len(word) > most:
        return False
    return word == "0" or word[0] != "0"


def is_sequence(value):
    return isinstance(value, (list, tuple))


def is_pair(value):
    return isinstance(value, tuple) and len(value) == 2


def is_value(value):
    if is_pair(value):
        return is_int(value[0]) and is_int(value[1]) and value[1] >= 1
    return is_int(value)


def is_lot(value, people):
    """Whether any value at all is a sequence of unlike ones of so many people."""
    if not is_sequence(value):
        return False
    # Only people are put into a set: other things may not be hashable.
    if not all([is_number(person) and person < people for person in value]):
        return False
    return len(set(value)) == len(value)


def common_divisor(numbers):
    divisor = 0
    for number in numbers:
        divisor = gcd(divisor, number)
    return divisor


def common_multiple(numbers):
    multiple = 1
    for number in numbers:
        multiple = lcm(multiple, number)
    return multiple


def lowest(top, bottom):
    """The value top / bottom as a pair in lowest terms."""
    divisor = gcd(top, bottom)
    return (top // divisor, bottom // divisor)


def as_pair(value):
    if is_pair(value):
        return lowest(value[0], value[1])
    return (value, 1)


def checked_numbers(numbers, people):
    """The numbers of so many people as pairs in lowest terms, or InvalidNumbers."""
    if not is_sequence(numbers) or len(numbers) != people:
        raise InvalidNumbers(0)
    for at, value in enumerate(numbers):
        if not is_value(value):
            raise InvalidNumbers(at)
    return tuple([as_pair(value) for value in numbers])


def is_less(first, second):
    """Whether the first one of two pairs stands for less than the second one."""
    return first[0] * second[1] < second[0] * first[1]


def even_tops(pairs):
    """The tops of pairs if all get one bottom, and this bottom."""
    bottom = common_multiple([pair[1] for pair in pairs])
    return ([pair[0] * (bottom // pair[1]) for pair in pairs], bottom)


def means(rows, pairs):
    """For each row of weights the mean of the pairs, which count by these weights."""
    tops, bottom = even_tops(pairs)
    totals = [sum([weight * top for weight, top in zip(row, tops)]) for row in rows]
    return tuple([lowest(total, bottom * sum(row)) for total, row in zip(totals, rows)])
