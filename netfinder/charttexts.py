"""Charts read from texts, and shown as texts."""

from netfinder.charts import MOST_ARCS, is_chart
from netfinder.errors import NoChart, NoText
from netfinder.parts import name_of, names_of, number_of, parts_of, show_parts


def arc_of(part):
    if len(part) != 3:
        raise NoText("an arc is a number, a name and a number")
    return (number_of(part[0]), name_of(part[1]), number_of(part[2]))


def read_chart(text):
    parts = parts_of(text)
    moves = tuple(sorted(names_of(parts[0])))
    if len(parts) - 1 > MOST_ARCS:
        raise NoText("there are more than 60 arcs")
    arcs = sorted([arc_of(part) for part in parts[1:]])
    # What was told twice does not rise, so is_chart finds it too.
    if not is_chart(moves, arcs):
        raise NoChart("the names and arcs are no chart")
    return (moves, arcs)


def show_chart(chart):
    return show_parts(chart[0], [f"{first} {move} {second}" for first, move, second in chart[1]])
