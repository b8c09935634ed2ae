"""What the tests reckon for themselves, with fractions, and rows of many forms to reckon with."""

import itertools
import random
from fractions import Fraction

GREAT = 10**60 - 1


def dot(one, other):
    assert len(one) == len(other)
    return sum(number * factor for number, factor in zip(one, other))


def added(rows, numbers, width):
    assert len(rows) == len(numbers)
    return tuple(sum(row[at] * number for row, number in zip(rows, numbers)) for at in range(width))


def rank(rows):
    """How many of the rows there are of which none is a sum of others."""
    left = [[Fraction(number) for number in row] for row in rows]
    found = 0
    for at in range(len(rows[0]) if rows else 0):
        lead = next((row for row in left if row[at] != 0), None)
        if lead is not None:
            left.remove(lead)
            left = [[one - row[at] / lead[at] * two for one, two in zip(row, lead)] for row in left]
            found += 1
    return found


def whole(number):
    return type(number) is int


def is_row(row, width):
    return type(row) is tuple and len(row) == width and all(whole(number) for number in row)


def small_rows():
    """All lists of at most three rows of width 2 with numbers from -1 to 1, and some others, with their width."""
    twos = list(itertools.product((-1, 0, 1), repeat=2))
    for many in range(4):
        for rows in itertools.product(twos, repeat=many):
            yield list(rows), 2
    for many in range(4):
        yield [()] * many, 0
        for rows in itertools.product((-2, 0, 1), repeat=many):
            yield [(number,) for number in rows], 1


def chance_rows():
    """Rows of many widths and sizes, always the same ones, with their width."""
    chance = random.Random(7)
    for greatest in (1, 3, 100, GREAT):
        for width, many in itertools.product((1, 2, 3, 5, 6), (1, 2, 4, 6, 7, 9, 12)):
            rows = [tuple(chance.randint(-greatest, greatest) for at in range(width)) for number in range(many)]
            yield rows, width
            # The last ones made sums of the others.
            half = rows[: (many + 1) // 2]
            sums = [added(half, [chance.randint(-2, 2) for row in half], width) for row in rows[len(half):]]
            yield half + sums, width
            # All on one side of a plane.
            across = tuple(chance.randint(-greatest, greatest) for at in range(width))
            yield [row if dot(row, across) > 0 else tuple(-number for number in row) for row in rows], width
