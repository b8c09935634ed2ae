"""Nets read from texts, and shown as texts."""

from netfinder.charts import rises
from netfinder.errors import NoNet, NoText
from netfinder.parts import name_of, names_of, number_of, parts_of, show_parts

MOST_PLACES = 200


def told_of(part):
    if len(part) % 3 != 1:
        raise NoText("a place is a number, and a name and two numbers for each of some moves")
    told = []
    for at in range(1, len(part), 3):
        told.append((name_of(part[at]), number_of(part[at + 1]), number_of(part[at + 2])))
    return (number_of(part[0]), told)


def check_moves(moves):
    if not rises(moves):
        raise NoNet("a name is told twice")


def place_from(moves, beads, told):
    by_move = {}
    for name, takes, gives in told:
        if name not in moves:
            raise NoNet(f"the move {name!r} of a place is not among the names")
        if name in by_move:
            raise NoNet(f"the move {name!r} is told twice in one place")
        by_move[name] = (takes, gives)
    pairs = [by_move.get(move, (0, 0)) for move in moves]
    return (beads, tuple([takes for takes, gives in pairs]), tuple([gives for takes, gives in pairs]))


def read_net(text):
    parts = parts_of(text)
    moves = tuple(sorted(names_of(parts[0])))
    if len(parts) - 1 > MOST_PLACES:
        raise NoText("there are more than 200 places")
    # All parts are read ahead of any check for NoNet: a later part's NoText goes first.
    told_parts = [told_of(part) for part in parts[1:]]
    check_moves(moves)
    return (moves, [place_from(moves, beads, told) for beads, told in told_parts])


def show_place(moves, place):
    told = [str(place[0])]
    for move, takes, gives in zip(moves, place[1], place[2]):
        if takes > 0 or gives > 0:
            told.append(f"{move} {takes} {gives}")
    return " ".join(told)


def show_net(net):
    return show_parts(net[0], [show_place(net[0], place) for place in net[1]])
