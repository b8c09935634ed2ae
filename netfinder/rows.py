"""Rows: tuples of whole numbers, their products and sums."""


def product(one, other):
    return sum([number * factor for number, factor in zip(one, other)])


def summed(rows, numbers, width):
    return tuple([sum([row[at] * number for row, number in zip(rows, numbers)]) for at in range(width)])


def less(row, other):
    return tuple([number - taken for number, taken in zip(row, other)])


def common_divisor(one, other):
    while other != 0:
        rest = one % other
        one = other
        other = rest
    return abs(one)


# The row without the divisors that all its numbers share: so numbers stay short.
def lowest(row):
    divisor = 0
    for number in row:
        divisor = common_divisor(divisor, number)
    if divisor == 0:
        return row
    return tuple([number // divisor for number in row])
