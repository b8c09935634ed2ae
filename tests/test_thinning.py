"""Nets thinned [30]; [2] and [3] for them."""

import unittest

from netfinder.charttexts import read_chart
from netfinder.errors import NoRun, OtherMoves
from netfinder.finding import net_for
from netfinder.holding import held
from netfinder.nettexts import read_net, show_net
from netfinder.runs import run_of
from netfinder.thinning import thinned
from tests.asking import asked, in_good_time, refused
from tests.manycharts import many_charts
from tests.test_holding import renumbered, runs_of_nets

BOTH_WAYS = "moves a b; 0 a 1; 1 b 0"


def without(net, at):
    return (net[0], net[1][:at] + net[1][at + 1:])


class TestThinned(unittest.TestCase):
    def told(self, chart, net, expected):
        with self.subTest(chart=chart, net=net):
            answer = asked(self, thinned, read_chart(chart), read_net(net))
            self.assertEqual(show_net(answer), expected)
            self.assertIsInstance(answer, tuple)
            self.assertIsInstance(answer[1], list)

    def borne_out(self, chart, net, thin):
        self.assertEqual(held(chart, thin)[0], "same")
        for at in range(len(thin[1])):
            self.assertNotEqual(held(chart, without(thin, at))[0], "same")
        self.assertEqual(thinned(chart, thin), thin)
        places = iter(net[1])
        self.assertTrue(all(place in places for place in thin[1]), "a place is new, or out of its order")

    def test_places_that_do_nothing(self):
        self.told("moves a; 0 a 0", "moves a; 3", "moves a")
        self.told("moves a; 0 a 0", "moves a; 1 a 1 1; 2; 5 a 2 2", "moves a")
        self.told("moves", "moves; 1; 2", "moves")
        self.told("moves", "moves", "moves")

    def test_nothing_to_leave_out(self):
        net = "moves a b; 1 a 1 0 b 0 1; 0 a 0 1 b 1 0"
        self.told(BOTH_WAYS, net, net)
        self.told("moves a", "moves a; 0 a 1 0", "moves a; 0 a 1 0")

    def test_alike_places(self):
        net = "moves a b; 1 a 1 0 b 0 1; 0 a 0 1 b 1 0; 1 a 1 0 b 0 1; 0 a 0 1 b 1 0"
        self.told(BOTH_WAYS, net, "moves a b; 1 a 1 0 b 0 1; 0 a 0 1 b 1 0")

    def test_from_the_last_to_the_first(self):
        # Each place would do by itself, so the first one is what stays.
        self.told("moves a; 0 a 1", "moves a; 1 a 1 0; 2 a 2 0; 3 a 3 0", "moves a; 1 a 1 0")
        self.told("moves a; 0 a 1", "moves a; 3 a 3 0; 2 a 2 0; 1 a 1 0", "moves a; 3 a 3 0")
        # The one behind would do for both ahead, but is looked at ahead of them.
        both = "moves a b; 0 a 1 1 b 0 0; 0 b 1 1; 0 a 1 1 b 1 1"
        self.told("moves a b", both, "moves a b; 0 a 1 1; 0 b 1 1")
        ahead = "moves a b; 0 a 1 1 b 1 1; 0 b 1 1; 0 a 1 1"
        self.told("moves a b", ahead, "moves a b; 0 a 1 1 b 1 1")

    def test_what_stays_stays_in_its_order(self):
        net = "moves a b; 7; 0 a 0 1 b 1 0; 8; 1 a 1 0 b 0 1; 9"
        self.told(BOTH_WAYS, net, "moves a b; 0 a 0 1 b 1 0; 1 a 1 0 b 0 1")

    def test_a_place_between_is_left_out(self):
        net = "moves a b; 1 a 1 0 b 0 1; 5 a 1 0 b 0 1; 0 a 0 1 b 1 0"
        self.told(BOTH_WAYS, net, "moves a b; 1 a 1 0 b 0 1; 0 a 0 1 b 1 0")

    def test_a_place_that_only_tells_states_apart(self):
        # Without it the states 1 and 2 would have one marking.
        chart = "moves a b; 0 a 1; 0 b 2"
        net = "moves a b; 1 a 1 0 b 1 0; 0 b 0 1; 0 a 0 1"
        self.told(chart, net, "moves a b; 1 a 1 0 b 1 0; 0 b 0 1")

    def test_a_chart_numbered_otherwise(self):
        self.told("moves a; 0 a 2; 2 a 1", "moves a; 2 a 1 0; 4 a 2 0", "moves a; 2 a 1 0")

    def test_nets_that_are_found(self):
        left_out = 0
        for chart in many_charts():
            found = net_for(chart)
            if found[0] == "net":
                thin = asked(self, thinned, chart, found[1])
                self.borne_out(chart, found[1], thin)
                left_out += len(found[1][1]) - len(thin[1])
        self.assertGreater(left_out, 0)

    def test_nets_of_other_making(self):
        for net, (chart, markings) in runs_of_nets():
            twice = (net[0], net[1] + net[1][::-1])
            thin = thinned(chart, twice)
            self.borne_out(chart, twice, thin)
            turned = renumbered(chart, [0] + list(range(len(markings) - 1, 0, -1)))
            self.assertEqual(thinned(turned, twice), thin)

    def test_two_hundred_places_in_good_time(self):
        net = read_net("moves a b; 2 a 1 0; 3 b 1 0")
        chart = run_of(net)[0]
        with in_good_time(60):
            thin = thinned(chart, (net[0], net[1] * 100))
        self.assertEqual(thin, net)


class TestRefused(unittest.TestCase):
    def no_run(self, chart, net):
        with self.subTest(chart=chart, net=net):
            refused(self, NoRun, thinned, read_chart(chart), read_net(net))

    def test_another_run(self):
        self.no_run(BOTH_WAYS, "moves a b; 0 a 1 0 b 0 1")  # stuck
        self.no_run("moves a; 0 a 1", "moves a; 2 a 1 0")  # free
        self.no_run("moves a; 0 a 1", "moves a")  # one
        self.no_run("moves a; 0 a 0", "moves a; 0 a 0 1")  # two
        self.no_run("moves a", "moves a")

    def test_a_net_that_would_have_the_run_without_a_place(self):
        self.no_run("moves a; 0 a 0", "moves a; 0 a 1 1")

    def test_other_moves_go_first(self):
        for chart, net in (
            ("moves a", "moves b"),
            ("moves a; 0 a 0", "moves a b"),
            ("moves a b; 0 a 0", "moves a"),
            ("moves", "moves a"),
        ):
            with self.subTest(chart=chart, net=net):
                refused(self, OtherMoves, thinned, read_chart(chart), read_net(net))


if __name__ == "__main__":
    unittest.main()
