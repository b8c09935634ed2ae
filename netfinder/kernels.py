"""The kernel of some rows: the rows that have the product 0 with each of them."""

from netfinder.rows import common_divisor, lowest, summed


def cleared(row, column, by):
    if row[column] == 0:
        return row
    return summed([row, by], [by[column], -row[column]], len(row))


def with_leader(leaders, column, leader):
    joined = {}
    for other in leaders:
        joined[other] = lowest(cleared(leaders[other], column, leader))
    joined[column] = leader
    return joined


# Rows of which the rows handed in are sums, by the columns in which they lead: ahead of it a leader has 0 alone,
# and no other leader has anything but 0 in it.
def leaders_of(rows):
    leaders = {}
    for row in rows:
        rest = row
        for column in leaders:
            rest = cleared(rest, column, leaders[column])
        filled = [column for column, number in enumerate(rest) if number != 0]
        if len(filled) > 0:
            leaders = with_leader(leaders, filled[0], lowest(rest))
    return leaders


# The row of the kernel with a number above 0 in this column, in which no leader leads, and 0 in all others such.
def kernel_row(leaders, column, width):
    scale = 1
    for at in leaders:
        leading = leaders[at][at]
        scale = abs(scale * leading) // common_divisor(scale, leading)
    told = [0] * width
    told[column] = scale
    for at in leaders:
        told[at] = -leaders[at][column] * (scale // leaders[at][at])
    return lowest(tuple(told))


def kernel(rows, width):
    leaders = leaders_of(rows)
    return [kernel_row(leaders, column, width) for column in range(width) if column not in leaders]


# A row of the kernel whose last number is above 0; None where all have 0 there.
def closing_row(rows, width):
    leaders = leaders_of(rows)
    if width - 1 in leaders:
        return None
    return kernel_row(leaders, width - 1, width)
