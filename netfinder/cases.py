"""The cases of a chart: two states to tell apart, or a move to shut out at a state; and places that solve them."""

from netfinder.charts import has_move, states_of
from netfinder.errors import NoCase
from netfinder.stretches import place_beads


def pairs_of(chart):
    pairs = []
    for first in range(states_of(chart)):
        for second in range(first + 1, states_of(chart)):
            pairs.append(("pair", first, second))
    return pairs


def gaps_of(chart):
    gaps = []
    for state in range(states_of(chart)):
        for move in chart[0]:
            if not has_move(chart, state, move):
                gaps.append(("gap", state, move))
    return gaps


def cases_of(chart):
    return pairs_of(chart) + gaps_of(chart)


def is_state_of(chart, thing):
    return isinstance(thing, int) and not isinstance(thing, bool) and 0 <= thing < states_of(chart)


# Looking it up among the cases would not do: a number of another kind, such as 1.0, is found there too.
def is_case(chart, thing):
    if not isinstance(thing, tuple) or len(thing) != 3 or not is_state_of(chart, thing[1]):
        return False
    if thing[0] == "pair":
        return is_state_of(chart, thing[2]) and thing[1] < thing[2]
    return thing[0] == "gap" and thing[2] in chart[0] and not has_move(chart, thing[1], thing[2])


def check_case(chart, thing):
    if not is_case(chart, thing):
        raise NoCase("this is no case of the chart")


def solves(chart, place, case):
    check_case(chart, case)
    beads = place_beads(chart, place)
    if case[0] == "pair":
        return beads[case[1]] != beads[case[2]]
    return beads[case[1]] < place[1][chart[0].index(case[2])]
