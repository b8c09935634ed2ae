"""Charts of many forms to ask about."""

import itertools

from netfinder.charts import is_chart
from netfinder.charttexts import read_chart
from tests.test_stretches import small_charts

FIVE = ("a", "b", "c", "d", "e")


def charts_of(moves, states, step):
    """Each so many-th chart of at most so many states with these moves, gone through by their arcs."""
    arcs = list(itertools.product(range(states), moves, range(states)))
    for bits in range(0, 2 ** len(arcs), step):
        chosen = [arc for at, arc in enumerate(arcs) if bits >> at & 1]
        if is_chart(moves, chosen):
            yield (moves, chosen)


def chain(states):
    return (("a",), [(state, "a", state + 1) for state in range(states - 1)])


def ring(states, moves):
    """A ring of so many states along which the moves take turns."""
    arcs = [(state, moves[state % len(moves)], (state + 1) % states) for state in range(states)]
    return (moves, sorted(arcs))


def counter(states):
    """Up by a, down by b."""
    ups = [(state, "a", state + 1) for state in range(states - 1)]
    downs = [(state + 1, "b", state) for state in range(states - 1)]
    return (("a", "b"), sorted(ups + downs))


def boxes(first, second, loops):
    """Two counters side by side, up by a and c, down by b and d; with an arc by e from each state to itself."""
    arcs = []
    for one, two in itertools.product(range(first), range(second)):
        state = one * second + two
        if one + 1 < first:
            arcs += [(state, "a", state + second), (state + second, "b", state)]
        if two + 1 < second:
            arcs += [(state, "c", state + 1), (state + 1, "d", state)]
        if loops:
            arcs.append((state, "e", state))
    return (FIVE, sorted(arcs))


def formed_charts():
    yield from small_charts()
    for states in (1, 2, 3, 5, 12):
        yield chain(states)
        yield counter(states)
        yield ring(states, ("a",))
        yield ring(states, ("a", "b"))
        yield ring(states, ("a", "b", "c"))
    yield boxes(2, 3, False)
    yield boxes(3, 4, True)
    for text in (
        # Two arcs by one move, to states that can't be told apart, and to ones that could.
        "moves a; 0 a 1; 0 a 2",
        "moves a b; 0 a 1; 0 a 2; 1 b 1; 2 b 3",
        # Moves without arcs.
        "moves a b c; 0 b 1",
        "moves a b c d e; 0 c 0; 0 d 1; 1 d 2",
        # A move that goes, and then doesn't, though nothing else has changed.
        "moves a b; 0 a 1; 1 b 2; 2 a 3",
        "moves a b; 0 a 1; 0 b 2; 1 b 3",
        # Up by two, down by three.
        "moves a b; 0 a 2; 1 a 3; 2 a 4; 3 b 0; 4 b 1",
        # Either side of a square, and one side shut out.
        "moves a b; 0 a 1; 0 b 2; 1 b 3; 2 a 3",
        "moves a b; 0 a 1; 0 b 2; 1 b 3; 2 a 4",
        # A middle state without a move that those around it have.
        "moves a b; 0 a 0; 0 b 1; 1 b 2; 2 a 2",
        "moves a b; 0 b 1; 1 a 1; 1 b 2",
    ):
        yield read_chart(text)


def many_charts():
    yield from formed_charts()
    yield from charts_of(("a",), 2, 1)
    yield from charts_of(("a", "b"), 2, 3)
    yield from charts_of(("a",), 3, 3)
    yield from charts_of(("a", "b"), 3, 811)
