"""Places that let a chart go, and the stretches of which they come."""

from netfinder.errors import NoStretch
from netfinder.rows import less, product
from netfinder.ways import counts_of, rings_of


# Along the tree alone: whether they fit the other arcs too is another question.
def place_beads(chart, place):
    added = less(place[2], place[1])
    return [place[0] + product(added, counts) for counts in counts_of(chart)]


def lets_go(chart, place):
    beads = place_beads(chart, place)
    for first, move, second in chart[1]:
        at = chart[0].index(move)
        if beads[first] < place[1][at] or beads[second] != beads[first] - place[1][at] + place[2][at]:
            return False
    return True


def has_arcs(chart, move):
    return any([by == move for first, by, second in chart[1]])


def is_stretch(chart, row):
    if any([product(row, ring) != 0 for ring in rings_of(chart)]):
        return False
    return all([number == 0 or has_arcs(chart, move) for move, number in zip(chart[0], row)])


def beads_of(chart, row):
    if not is_stretch(chart, row):
        raise NoStretch("the row is no stretch of the chart")
    heights = [product(row, counts) for counts in counts_of(chart)]
    return [height - min(heights) for height in heights]


def taken(chart, beads, move):
    having = [beads[first] for first, by, second in chart[1] if by == move]
    return min(having, default=max(beads) + 1)


def place_of(chart, row):
    beads = beads_of(chart, row)
    takes = tuple([taken(chart, beads, move) for move in chart[0]])
    return (beads[0], takes, tuple([number + more for number, more in zip(takes, row)]))
