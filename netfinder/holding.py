"""A chart and a net held against one another."""

from netfinder.charts import goes_to, states_of
from netfinder.errors import OtherMoves
from netfinder.nets import first_marking, moved


# Gives the state its marking, where it has none; tells what stands against it, or None.
def give(got, state, marking, way):
    for other in got:
        if other != state and got[other][0] == marking:
            return ("one", got[other][1], way)
    if state not in got:
        got[state] = (marking, way)
    elif got[state][0] != marking:
        return ("two", got[state][1], way)
    return None


def look_at(chart, net, got, state):
    marking = got[state][0]
    way = got[state][1]
    for move in chart[0]:
        coming = moved(net, marking, move)
        seconds = goes_to(chart, state, move)
        if coming is None and len(seconds) > 0:
            return ("stuck", way, move)
        if coming is not None and len(seconds) == 0:
            return ("free", way, move)
        for second in seconds:
            against = give(got, second, coming, way + (move,))
            if against is not None:
                return against
    return None


def held(chart, net):
    if chart[0] != net[0]:
        raise OtherMoves("the chart and the net have not the same moves")
    # By states, in the order in which they got their markings: tuples (marking, way).
    got = {0: (first_marking(net), ())}
    looked_at = 0
    while looked_at < len(got):
        against = look_at(chart, net, got, list(got)[looked_at])
        if against is not None:
            return against
        looked_at = looked_at + 1
    return ("same", [got[state][0] for state in range(states_of(chart))])
