"""Of a case a place that solves it, or a paper by which there is none."""

from netfinder.above import above
from netfinder.cases import check_case
from netfinder.charts import has_move, states_of
from netfinder.kernels import kernel
from netfinder.rows import less, lowest, product, summed
from netfinder.spans import spanned
from netfinder.stretches import has_arcs, place_of
from netfinder.ways import counts_of, rings_of


# No count and no ring has a move without arcs, so what the row says of such a move may as well be 0.
def told_place(chart, row):
    stretch = tuple([number if has_arcs(chart, move) else 0 for move, number in zip(chart[0], row)])
    return ("place", place_of(chart, lowest(stretch)))


def parted_pair(chart, first, second):
    counts = counts_of(chart)
    answer = spanned(rings_of(chart), less(counts[first], counts[second]))
    if answer[0] == "row":
        return told_place(chart, answer[1])
    return ("paper", answer[1], answer[2])


def states_with(chart, move):
    return [state for state in range(states_of(chart)) if has_move(chart, state, move)]


def parted_gap(chart, state, move):
    counts = counts_of(chart)
    rings = rings_of(chart)
    width = len(chart[0])
    having = states_with(chart, move)
    steps = [less(counts[other], counts[state]) for other in having]
    # A stretch is a sum of these, and shuts the move out where its product with each step is above 0.
    sides = kernel(rings, width)
    answer = above([tuple([product(step, side) for side in sides]) for step in steps], len(sides))
    if answer[0] == "row":
        return told_place(chart, summed(sides, answer[1], width))
    # The sum of the steps has the product 0 with all that have it with the rings, so the rings span it.
    closing = spanned(rings, summed(steps, answer[1], width))
    weights = [0] * len(counts)
    for other, number in zip(having, answer[1]):
        weights[other] = number * closing[1]
    return ("paper", weights, closing[2])


def parted(chart, case):
    check_case(chart, case)
    if case[0] == "pair":
        return parted_pair(chart, case[1], case[2])
    return parted_gap(chart, case[1], case[2])


def are_weights(chart, move, weights):
    if len(weights) != states_of(chart) or min(weights) < 0 or max(weights) == 0:
        return False
    return all([weight == 0 or has_move(chart, state, move) for state, weight in enumerate(weights)])


def is_paper(chart, case, first, numbers):
    check_case(chart, case)
    counts = counts_of(chart)
    rings = rings_of(chart)
    if len(numbers) != len(rings):
        return False
    width = len(chart[0])
    if case[0] == "pair":
        if first < 1:
            return False
        shown = summed([counts[case[1]], counts[case[2]]], [first, -first], width)
    else:
        if not are_weights(chart, case[2], first):
            return False
        shown = summed([less(other, counts[case[1]]) for other in counts], first, width)
    return shown == summed(rings, numbers, width)
