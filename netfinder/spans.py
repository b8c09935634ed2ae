"""Rows spanned by some rows, or told apart from them."""

from netfinder.kernels import closing_row, kernel
from netfinder.rows import product


def spanned(rows, row):
    joined = list(rows) + [row]
    # Its kernel tells the sums of the rows, and the row behind them, that are 0 at each place.
    columns = [tuple([one[at] for one in joined]) for at in range(len(row))]
    closing = closing_row(columns, len(joined))
    if closing is None:
        return ("row", [other for other in kernel(rows, len(row)) if product(other, row) != 0][0])
    return ("sum", closing[-1], [-number for number in closing[:-1]])
