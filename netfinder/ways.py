"""The ways of a chart along its tree, their counts, and the rings that the other arcs make."""

from netfinder.charts import states_of, tree_of
from netfinder.rows import less


def ways_of(chart):
    ways = {0: ()}
    for first, move, second in tree_of(chart[1]):
        ways[second] = ways[first] + (move,)
    return [ways[state] for state in range(states_of(chart))]


def counted(moves, way):
    return tuple([way.count(move) for move in moves])


def counts_of(chart):
    return [counted(chart[0], way) for way in ways_of(chart)]


def rings_of(chart):
    ways = ways_of(chart)
    tree = tree_of(chart[1])
    rings = []
    for arc in chart[1]:
        if arc not in tree:
            rings.append(less(counted(chart[0], ways[arc[0]] + (arc[1],)), counted(chart[0], ways[arc[2]])))
    return rings
