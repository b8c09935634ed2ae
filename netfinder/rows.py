"""Rows: tuples of whole numbers, their products and sums."""


def product(one, other):
    return sum([number * factor for number, factor in zip(one, other)])


def summed(rows, numbers, width):
    return tuple([sum([row[at] * number for row, number in zip(rows, numbers)]) for at in range(width)])


def less(row, other):
    return tuple([number - taken for number, taken in zip(row, other)])
