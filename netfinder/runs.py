"""The run of a net, and its growth."""

from netfinder.charts import MOST_STATES
from netfinder.errors import TooGreat
from netfinder.nets import first_marking, moved


# What is met is a list of tuples (marking, way, number of the one ahead on the way); with it come the arcs.
# The last marking looked at may bring more than one too many; who asks leaves them out.
def explored(net):
    met = [(first_marking(net), (), None)]
    numbers = {met[0][0]: 0}
    arcs = []
    looked_at = 0
    while looked_at < len(met) <= MOST_STATES:
        marking = met[looked_at][0]
        for move in net[0]:
            coming = moved(net, marking, move)
            if coming is not None:
                if coming not in numbers:
                    numbers[coming] = len(met)
                    met.append((coming, met[looked_at][1] + (move,), looked_at))
                arcs.append((looked_at, move, numbers[coming]))
        looked_at = looked_at + 1
    return (met, arcs)


def run_of(net):
    found = explored(net)
    markings = [marking for marking, way, ahead in found[0]]
    if len(markings) > MOST_STATES:
        raise TooGreat("the run has more than 12 markings")
    return ((net[0], found[1]), markings)


def covers(marking, other):
    return all([beads >= fewer for beads, fewer in zip(marking, other)])


def nearest_covered(met, number):
    ahead = met[number][2]
    while ahead is not None and not covers(met[number][0], met[ahead][0]):
        ahead = met[ahead][2]
    return ahead


def growth_of(net):
    met = explored(net)[0]
    if len(met) <= MOST_STATES:
        return ("ends", len(met))
    for number in range(MOST_STATES + 1):
        ahead = nearest_covered(met, number)
        if ahead is not None:
            way = met[ahead][1]
            return ("grows", way, met[number][1][len(way):])
    return ("beyond",)
