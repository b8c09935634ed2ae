"""Nets, markings, and moves that go [9]; [2] and [3] for them."""

import unittest

from netfinder.nets import can_go, first_marking, moved
from tests.asking import asked

GREAT = 10**60 - 1


def small_net():
    return (("a", "b"), [(1, (1, 0), (0, 1)), (0, (0, 2), (0, 2))])


class TestFirstMarking(unittest.TestCase):
    def told(self, net, marking):
        with self.subTest(net=net):
            answer = asked(self, first_marking, net)
            self.assertEqual(answer, marking)
            self.assertIsInstance(answer, tuple)

    def test_the_beads_of_the_places(self):
        self.told(small_net(), (1, 0))
        self.told((("a",), [(3, (0,), (0,)), (0, (9,), (9,)), (2, (1,), (0,))]), (3, 0, 2))

    def test_without_places_and_without_moves(self):
        self.told((("a",), []), ())
        self.told(((), []), ())
        self.told(((), [(4, (), ())]), (4,))

    def test_numbers_of_sixty_figures(self):
        self.told((("a",), [(GREAT, (0,), (0,))]), (GREAT,))

    def test_two_hundred_places(self):
        self.told((("a",), [(beads, (0,), (1,)) for beads in range(200)]), tuple(range(200)))


class TestMoves(unittest.TestCase):
    def goes(self, net, marking, move, coming):
        with self.subTest(net=net, marking=marking, move=move):
            self.assertIs(asked(self, can_go, net, marking, move), True)
            answer = asked(self, moved, net, marking, move)
            self.assertEqual(answer, coming)
            self.assertIsInstance(answer, tuple)

    def stays(self, net, marking, move):
        with self.subTest(net=net, marking=marking, move=move):
            self.assertIs(asked(self, can_go, net, marking, move), False)
            self.assertIsNone(asked(self, moved, net, marking, move))

    def test_the_documents_net(self):
        self.goes(small_net(), (1, 0), "a", (0, 0))
        self.stays(small_net(), (0, 0), "a")
        self.stays(small_net(), (1, 1), "b")
        self.goes(small_net(), (0, 2), "b", (1, 2))

    def test_exactly_as_many_as_are_taken_and_one_fewer(self):
        net = (("a",), [(0, (3,), (1,)), (0, (2,), (5,))])
        self.goes(net, (3, 2), "a", (1, 5))
        self.goes(net, (4, 2), "a", (2, 5))
        self.stays(net, (2, 2), "a")
        self.stays(net, (3, 1), "a")
        self.stays(net, (2, 1), "a")
        self.stays(net, (9, 0), "a")

    def test_each_place_counts_wherever_it_stands(self):
        net = (("a",), [(0, (1,), (0,))] * 3)
        self.goes(net, (1, 1, 1), "a", (0, 0, 0))
        for marking in ((0, 1, 1), (1, 0, 1), (1, 1, 0)):
            self.stays(net, marking, "a")

    def test_a_place_that_takes_and_gives(self):
        net = (("a",), [(0, (2,), (2,))])
        self.goes(net, (2,), "a", (2,))
        self.goes(net, (7,), "a", (7,))
        self.stays(net, (1,), "a")
        self.stays((("a",), [(0, (2,), (9,))]), (1,), "a")

    def test_each_move_by_its_own_numbers(self):
        net = (("a", "b", "c"), [(0, (1, 2, 3), (6, 5, 4))])
        self.goes(net, (3,), "a", (8,))
        self.goes(net, (3,), "b", (6,))
        self.goes(net, (3,), "c", (4,))
        self.goes(net, (1,), "a", (6,))
        self.stays(net, (1,), "b")
        self.stays(net, (2,), "c")

    def test_numbers_of_sixty_figures(self):
        net = (("a",), [(GREAT, (GREAT,), (GREAT,)), (0, (0,), (GREAT,)), (0, (GREAT,), (1,))])
        self.goes(net, (GREAT, GREAT, GREAT), "a", (GREAT, 2 * GREAT, 1))
        self.stays(net, (GREAT - 1, GREAT, GREAT), "a")
        self.stays(net, (GREAT, 0, GREAT - 1), "a")
        self.goes(net, (GREAT, 0, GREAT + 1), "a", (GREAT, GREAT, 2))

    def test_without_places_each_move_goes(self):
        self.goes((("a", "b"), []), (), "a", ())
        self.goes((("a", "b"), []), (), "b", ())

    def test_where_nothing_is_taken_each_move_goes(self):
        net = (("a", "b"), [(0, (0, 0), (1, 0)), (5, (0, 0), (0, 2))])
        self.goes(net, (0, 5), "a", (1, 5))
        self.goes(net, (0, 5), "b", (0, 7))
        self.goes(net, (0, 0), "a", (1, 0))

    def test_the_marking_may_be_any(self):
        self.goes(small_net(), (8, 9), "a", (7, 9))


if __name__ == "__main__":
    unittest.main()
