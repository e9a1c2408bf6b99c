"""Determinants of squares of integers."""


def determinant(rows):
    """The determinant of as many rows as each of them has integers; 1 if there is none."""
    if len(rows) == 0:
        return 1
    total = 0
    for k, number in enumerate(rows[0]):
        if number != 0:
            part = number * determinant(without_column(rows[1:], k))
            total += part if k % 2 == 0 else -part
    return total


def minor(rows, k):
    """The determinant without the row k and the column k."""
    return determinant(without_column(rows[:k] + rows[k + 1:], k))


def without_column(rows, k):
    return [row[:k] + row[k + 1:] for row in rows]
