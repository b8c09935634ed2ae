"""The run of a net [12] and its growth [13]; [2] and [3] for them."""

import itertools
import unittest

from netfinder.charts import is_chart
from netfinder.errors import TooGreat
from netfinder.nets import first_marking, moved
from netfinder.nettexts import read_net
from netfinder.runs import growth_of, run_of
from tests.asking import asked, refused


def counter(greatest):
    """A net that goes down from the greatest number to 0: one marking more than this."""
    return (("a",), [(greatest, (1,), (0,))])


def many_nets():
    """All nets of two moves with one place of few beads, and of two places with fewer still."""
    numbers = list(itertools.product(range(3), repeat=5))
    for beads, one, two, three, four in numbers:
        yield (("a", "b"), [(beads, (one, two), (three, four))])
    few = list(itertools.product(range(2), repeat=5))
    for first, second in itertools.product(few, repeat=2):
        yield (("a", "b"), [(one[0], (one[1], one[2]), (one[3], one[4])) for one in (first, second)])


def play(net, way):
    marking = first_marking(net)
    for move in way:
        marking = moved(net, marking, move)
    return marking


def first_ways(net, most):
    """The ways to the first so many markings as they are met, each found by playing it from the start."""
    ways = [()]
    for way in ways:
        for move in net[0]:
            coming = moved(net, play(net, way), move)
            if coming is not None and coming not in [play(net, other) for other in ways]:
                ways.append(way + (move,))
                if len(ways) == most:
                    return ways
    return ways


def growth_by_playing(net):
    ways = first_ways(net, 13)
    if len(ways) <= 12:
        return ("ends", len(ways))
    for way in ways:
        for length in reversed(range(len(way))):
            if all(more >= less for more, less in zip(play(net, way), play(net, way[:length]))):
                return ("grows", way[:length], way[length:])
    return ("beyond",)


class TestRunOf(unittest.TestCase):
    def told(self, text, arcs, markings):
        with self.subTest(text=text):
            net = read_net(text)
            answer = asked(self, run_of, net)
            self.assertEqual(answer, ((net[0], arcs), markings))
            self.assertIsInstance(answer, tuple)
            self.assertIsInstance(answer[0], tuple)
            self.assertIsInstance(answer[1], list)
            self.assertTrue(is_chart(*answer[0]))

    def test_numbered_as_they_are_met(self):
        self.told(
            "moves a b; 1 a 1 0 b 1 0; 0 a 0 1; 0 b 0 1",
            [(0, "a", 1), (0, "b", 2)],
            [(1, 0, 0), (0, 1, 0), (0, 0, 1)],
        )

    def test_marking_by_marking_ahead_of_depth(self):
        # The second marking's own comings are numbered behind the third marking.
        self.told(
            "moves a b; 1 a 1 0; 1 b 1 0",
            [(0, "a", 1), (0, "b", 2), (1, "b", 3), (2, "a", 3)],
            [(1, 1), (0, 1), (1, 0), (0, 0)],
        )

    def test_move_by_move_in_the_moves_order(self):
        self.told(
            "moves b a; 0 a 0 1 b 0 0; 1 b 1 0 a 1 0; 0 b 0 1",
            [(0, "a", 1), (0, "b", 2)],
            [(0, 1, 0), (1, 0, 0), (0, 0, 1)],
        )

    def test_the_documents_net(self):
        self.told("moves a b; 1 a 1 0 b 0 1; 0 b 2 2", [(0, "a", 1)], [(1, 0), (0, 0)])

    def test_loops(self):
        self.told("moves a; 1 a 1 1", [(0, "a", 0)], [(1,)])
        self.told(
            "moves a b c; 1 a 1 0 b 0 1; 0 a 0 1 b 1 0; 1 c 1 1",
            [(0, "a", 1), (0, "c", 0), (1, "b", 0), (1, "c", 1)],
            [(1, 0, 1), (0, 1, 1)],
        )

    def test_without_places_or_moves(self):
        self.told("moves", [], [()])
        self.told("moves; 5", [], [(5,)])
        self.told("moves a b", [(0, "a", 0), (0, "b", 0)], [()])

    def test_no_move_goes(self):
        self.told("moves a; 0 a 1 9", [], [(0,)])

    def test_twelve_markings_are_told_and_thirteen_refused(self):
        chart, markings = asked(self, run_of, counter(11))
        self.assertEqual(markings, [(beads,) for beads in range(11, -1, -1)])
        self.assertEqual(chart, (("a",), [(state, "a", state + 1) for state in range(11)]))
        for greatest in (12, 13, 1000, 10**60 - 1):
            with self.subTest(greatest=greatest):
                refused(self, TooGreat, run_of, counter(greatest))

    def test_twelve_markings_met_from_few(self):
        # Five moves lead from one marking at a time, so the thirteenth comes while one is looked at.
        five = "moves a b c d e; 1 a 1 0 b 1 0 c 1 0 d 1 0 e 1 0; 0 a 0 1; 0 b 0 1; 0 c 0 1; 0 d 0 1; 0 e 0 1"
        self.assertEqual(len(asked(self, run_of, read_net(five))[1]), 6)
        refused(self, TooGreat, run_of, read_net(five.replace("; 1 a", "; 2 a")))
        two = "moves a b; 2 a 1 0; 3 b 1 0"
        chart, markings = asked(self, run_of, read_net(two))
        self.assertEqual(len(markings), 12)
        self.assertEqual(len(chart[1]), 17)
        refused(self, TooGreat, run_of, read_net("moves a b; 2 a 1 0; 4 b 1 0"))

    def test_a_net_that_grows_is_refused(self):
        refused(self, TooGreat, run_of, read_net("moves a; 0 a 0 1"))
        refused(self, TooGreat, run_of, read_net("moves a b; 0 a 0 1 b 1 0"))

    def test_arcs_rise(self):
        chart = run_of(read_net("moves c b a; 1 a 1 0 b 1 0 c 1 1; 0 a 0 1 b 0 2"))[0]
        self.assertEqual(chart[1], [(0, "a", 1), (0, "b", 2), (0, "c", 0)])

    def test_great_numbers(self):
        great = 10**59
        net = (("a", "b"), [(great, (great, 0), (0, great)), (0, (0, great), (great, 0))])
        expected = ((("a", "b"), [(0, "a", 1), (1, "b", 0)]), [(great, 0), (0, great)])
        self.assertEqual(asked(self, run_of, net), expected)

    def test_two_hundred_places(self):
        net = (("a",), [(1, (1,), (0,))] * 200)
        self.assertEqual(run_of(net), ((("a",), [(0, "a", 1)]), [(1,) * 200, (0,) * 200]))

    def test_many_nets(self):
        told = 0
        for net in many_nets():
            ways = first_ways(net, 13)
            if len(ways) > 12:
                with self.assertRaises(TooGreat):
                    run_of(net)
                continue
            markings = [play(net, way) for way in ways]
            arcs = []
            for state, move in itertools.product(range(len(ways)), net[0]):
                coming = moved(net, markings[state], move)
                if coming is not None:
                    arcs.append((state, move, markings.index(coming)))
            self.assertEqual(run_of(net), ((net[0], arcs), markings))
            told += 1
        self.assertGreater(told, 500)


class TestGrowthOf(unittest.TestCase):
    def told(self, text, expected):
        with self.subTest(text=text):
            answer = asked(self, growth_of, read_net(text))
            self.assertEqual(answer, expected)
            self.assertIsInstance(answer, tuple)

    def test_ends(self):
        self.told("moves", ("ends", 1))
        self.told("moves a b", ("ends", 1))
        self.told("moves a; 1 a 1 1", ("ends", 1))
        self.told("moves a; 1 a 1 0", ("ends", 2))
        self.told("moves a; 11 a 1 0", ("ends", 12))
        self.told("moves a b; 2 a 1 0; 3 b 1 0", ("ends", 12))

    def test_beyond(self):
        self.told("moves a; 12 a 1 0", ("beyond",))
        self.told("moves a b; 3 a 1 0; 3 b 1 0", ("beyond",))
        self.told("moves a; 9999999 a 2 1", ("beyond",))

    def test_grows_at_once(self):
        self.told("moves a; 0 a 0 1", ("grows", (), ("a",)))
        self.told("moves a b; 0 b 0 1", ("grows", (), ("b",)))
        self.told("moves a; 3 a 2 5", ("grows", (), ("a",)))

    def test_grows_farther_on(self):
        self.told("moves a b; 1 a 1 0; 0 a 0 1 b 1 2", ("grows", ("a",), ("b",)))
        self.told("moves a b; 1 a 1 0 b 0 1; 0 a 0 1 b 1 0; 0 b 0 1", ("grows", (), ("a", "b")))

    def test_as_many_at_each_place_and_more_at_one(self):
        self.told("moves a; 1 a 1 1; 0 a 0 1; 5", ("grows", (), ("a",)))
        self.told("moves a; 0 a 0 1; 1 a 1 1", ("grows", (), ("a",)))

    def test_more_at_one_place_and_fewer_at_another_is_none(self):
        self.told("moves a; 12 a 1 0; 0 a 0 1", ("beyond",))
        self.told("moves a; 0 a 0 1; 12 a 1 0", ("beyond",))

    def test_the_nearest_one_ahead(self):
        # What comes by a and b lies over what comes by a, and over the first one too.
        self.told("moves a b; 1 a 1 0 b 0 1; 0 a 0 1 b 1 1", ("grows", ("a",), ("b",)))
        self.told("moves a b; 5 a 1 0 b 1 9; 1 a 1 0; 0 a 0 1 b 1 1", ("grows", ("a",), ("b",)))

    def test_the_first_such_marking(self):
        # Both a and b begin ways that grow; the marking met by b is met first of those that lie over one ahead.
        self.told("moves a b; 1 a 1 0 b 0 2; 0 a 0 1", ("grows", (), ("b",)))
        self.told("moves a b c; 1 a 1 0; 1 b 1 0; 0 a 0 1 c 1 2", ("grows", ("a",), ("c",)))

    def test_one_ahead_but_not_on_its_way_does_not_count(self):
        # By b comes less than by a, but neither lies on the other's way.
        net = read_net("moves a b; 1 a 1 0 b 1 0; 0 a 0 1; 0 a 0 20 b 0 19")
        self.assertEqual(asked(self, growth_of, net), ("ends", 3))
        self.told("moves a b c; 1 a 1 0 b 1 0; 0 a 0 12 b 0 13 c 1 0", ("beyond",))

    def test_only_thirteen_markings_are_looked_at(self):
        # The twelfth move is the last one that leads down, and what comes behind it would grow.
        grows_late = "moves a b; {0} a 1 0; 1 a 1 1 b 1 0; 0 a 0 0 b 0 1"
        self.told(grows_late.format(20), growth_by_playing(read_net(grows_late.format(20))))
        # 13 markings in a row, and the ring only behind them.
        self.told("moves a b; 12 a 1 0; 0 a 0 1 b 12 13", ("beyond",))
        # The ring is the thirteenth marking itself.
        self.told("moves a b; 11 a 1 0; 0 a 0 1 b 11 12", ("grows", ("a",) * 11, ("b",)))
        # The thirteenth marking comes by the first move from the last one looked at; by the second one it would grow.
        self.told("moves a b; 12 a 1 0; 0 a 0 1 b 11 12", ("beyond",))

    def test_many_nets(self):
        kinds = {"ends": 0, "grows": 0}
        for net in many_nets():
            answer = growth_of(net)
            self.assertEqual(answer, growth_by_playing(net))
            kinds[answer[0]] += 1
        self.assertGreater(min(kinds.values()), 100)

    def test_the_ring_goes_again_and_again(self):
        for net in many_nets():
            answer = growth_of(net)
            if answer[0] == "grows":
                before = play(net, answer[1])
                after = play(net, answer[1] + answer[2])
                self.assertTrue(all(more >= less for more, less in zip(after, before)) and after != before)
                self.assertIsNotNone(play(net, answer[1] + answer[2] * 3))

    def test_longer_nets(self):
        for beads in range(3):
            for text in (
                f"moves a b c; {beads} a 1 0 b 0 2; 1 b 1 0 c 0 1; 0 a 0 1 c 2 0",
                f"moves a b c; 2 a 1 0 c 0 1; {beads} a 0 1 b 1 0; 0 b 0 2 c 1 1",
                f"moves a b c d; 3 a 1 0; {beads} a 0 2 b 3 0; 1 b 0 1 c 1 0; 0 c 0 4 d 2 3",
                f"moves a b; 4 a 1 0; {beads} a 0 1 b 2 0; 9 b 1 0",
            ):
                self.told(text, growth_by_playing(read_net(text)))


if __name__ == "__main__":
    unittest.main()
