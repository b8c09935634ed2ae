"""Nets: tuples (moves, places), their markings, and the moves that go."""


def first_marking(net):
    return tuple([place[0] for place in net[1]])


def can_go(net, marking, move):
    at = net[0].index(move)
    return all([beads >= place[1][at] for beads, place in zip(marking, net[1])])


def moved(net, marking, move):
    if not can_go(net, marking, move):
        return None
    at = net[0].index(move)
    return tuple([beads - place[1][at] + place[2][at] for beads, place in zip(marking, net[1])])
