"""Rows that lie above: a row whose product with each of them is 1 or more, or a sum of them that is 0."""

from netfinder.kernels import closing_row
from netfinder.rows import product
from netfinder.spans import spanned


# The numbers of some rows, as many as can be, of which none is a sum of others.
def independent(rows):
    chosen = []
    for at, row in enumerate(rows):
        if spanned([rows[other] for other in chosen], row)[0] == "row":
            chosen.append(at)
    return chosen


# A row, and behind it one number above 0 that is its product with each of these rows, of which none is a sum
# of others.
def level_row(rows, width):
    return closing_row([row + (-1,) for row in rows], width + 1)


def first_below(rows, level):
    for at, row in enumerate(rows):
        if product(row, level[:-1]) < level[-1]:
            return at
    return None


def above(rows, width):
    chosen = independent(rows)
    while True:
        level = level_row([rows[at] for at in chosen], width)
        low = first_below(rows, level)
        if low is None:
            return ("row", level[:-1])
        answer = spanned([rows[at] for at in chosen], rows[low])
        numbers = [0] * len(rows)
        numbers[low] = answer[1]
        for at, number in zip(chosen, answer[2]):
            numbers[at] = -number
        # Only by more than the level at a row that the low one takes above 0 times does it come up to the level.
        leaving = [at for at in chosen if numbers[at] < 0]
        if len(leaving) == 0:
            return ("sum", numbers)
        # By the first low row and the first leaving one (Bland's rule) no choice comes again, so this ends.
        chosen = sorted([at for at in chosen if at != leaving[0]] + [low])
