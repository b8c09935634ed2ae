"""Nets thinned: without the places that they can do without."""

from netfinder.errors import NoRun
from netfinder.holding import held


def has_run(chart, net):
    return held(chart, net)[0] == "same"


def thinned(chart, net):
    if not has_run(chart, net):
        raise NoRun("the net's run is not the chart")
    places = list(net[1])
    for at in range(len(net[1]) - 1, -1, -1):
        fewer = places[:at] + places[at + 1:]
        if has_run(chart, (net[0], fewer)):
            places = fewer
    return (net[0], places)
