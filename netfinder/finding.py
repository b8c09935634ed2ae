"""Nets found for charts."""

from netfinder.cases import cases_of, solves
from netfinder.holding import held
from netfinder.parting import parted


def net_for(chart):
    places = []
    for case in cases_of(chart):
        # A case that a place solves has no paper, so no paper is passed over here.
        if not any([solves(chart, place, case) for place in places]):
            answer = parted(chart, case)
            if answer[0] == "paper":
                return ("none", case, answer)
            places.append(answer[1])
    net = (chart[0], places)
    return ("net", net, held(chart, net)[1])
