"""Charts: tuples (moves, arcs), their states, and where their moves go."""

from netfinder.lexis import is_letter

LONGEST_NAME = 8
MOST_MOVES = 5
MOST_ARCS = 60
MOST_STATES = 12


def states_of(chart):
    return 1 + max([max(first, second) for first, move, second in chart[1]], default=0)


# A chart's arcs rise, so the second states of some of them, taken in their order, rise too.
def goes_to(chart, state, move):
    return [second for first, by, second in chart[1] if first == state and by == move]


def has_move(chart, state, move):
    return len(goes_to(chart, state, move)) > 0


def is_name(text):
    if text == "moves" or not 1 <= len(text) <= LONGEST_NAME:
        return False
    return all([is_letter(sign) for sign in text])


def rises(values):
    return all([one < other for one, other in zip(values, values[1:])])


def are_moves(moves):
    return len(moves) <= MOST_MOVES and rises(moves) and all([is_name(move) for move in moves])


def is_state(number):
    return 0 <= number < MOST_STATES


def are_arcs(arcs, moves):
    if len(arcs) > MOST_ARCS or not rises(arcs):
        return False
    return all([is_state(first) and move in moves and is_state(second) for first, move, second in arcs])


# The arcs by which the states other than 0 are met, in the order in which they are. Arcs rise, so those that
# go from one state stand move by move.
def tree_of(arcs):
    met = [0]
    tree = []
    looked_at = 0
    while looked_at < len(met):
        for arc in arcs:
            if arc[0] == met[looked_at] and arc[2] not in met:
                met.append(arc[2])
                tree.append(arc)
        looked_at = looked_at + 1
    return tree


def is_chart(moves, arcs):
    if not are_moves(moves) or not are_arcs(arcs, moves):
        return False
    # Each state but 0 that is met has one arc of the tree, and none that is met lies outside the chart.
    return 1 + len(tree_of(arcs)) == states_of((moves, arcs))
