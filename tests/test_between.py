"""All between two points as one piece: [29], and of [2], [3], [4] what speaks of it."""

import unittest
from fractions import Fraction

from ohmyard.between import between
from ohmyard.errors import Floats, NoPoint, Ring
from ohmyard.hanging import floating, ring_sum, rings
from ohmyard.heights import Answer
from ohmyard.nets import Net
from ohmyard.ratios import is_fraction
from ohmyard.rows import Push
from ohmyard.shapes import in_row, side_by_side
from ohmyard.tables import table_of
from samples import BRIDGE, Nets, net_of

NO_POINTS = [
    -1, -2, 10 ** 5000, True, False, None, "", "0", "1", b"0", 0.0, 1.0, Fraction(1), (), (0,), [], [0], {}, {0: 1}, {0},
    object(), int,
]


def quieted(net, start, goal):
    """The net with all pushes and holds of size nought and one push more of size 1."""
    rows = [(word, begin, end, size if word == "piece" else 0) for word, begin, end, size in net.told()]
    made = net_of(net.many(), rows)
    made.add(Push(start, goal, (1, 1)))
    return made


class Between(unittest.TestCase):
    def test_one_piece(self):
        net = net_of(2, [("piece", 1, 0, (7, 3))])
        self.assertEqual(between(net, 0, 1), (7, 3))
        self.assertEqual(between(net, 1, 0), (7, 3))

    def test_in_a_row(self):
        net = net_of(4, [("piece", 0, 1, 2), ("piece", 2, 1, (1, 3)), ("piece", 2, 3, 5)])
        self.assertEqual(between(net, 0, 3), in_row([(2, 1), (1, 3), (5, 1)]))
        self.assertEqual(between(net, 3, 1), in_row([(1, 3), (5, 1)]))
        self.assertEqual(between(net, 1, 2), (1, 3))

    def test_side_by_side(self):
        net = net_of(2, [("piece", 0, 1, 2), ("piece", 1, 0, 3), ("piece", 0, 1, 6)])
        self.assertEqual(between(net, 0, 1), (1, 1))
        self.assertEqual(between(net, 1, 0), side_by_side([(2, 1), (3, 1), (6, 1)]))

    def test_neither_in_a_row_nor_side_by_side(self):
        net = net_of(4, [("piece", 0, 1, 1), ("piece", 0, 2, 2), ("piece", 1, 2, 3), ("piece", 1, 3, 4), ("piece", 2, 3, 5)])
        self.assertEqual(between(net, 0, 3), (61, 21))
        self.assertEqual(between(net, 3, 0), (61, 21))

    def test_far_from_the_base(self):
        net = net_of(4, [("piece", 0, 1, 9), ("piece", 2, 1, 2), ("piece", 3, 2, 3), ("piece", 1, 3, 5)])
        self.assertEqual(between(net, 2, 3), side_by_side([(3, 1), (7, 1)]))

    def test_a_is_b(self):
        net = net_of(3, BRIDGE)
        for point in range(3):
            self.assertEqual(between(net, point, point), (0, 1))
        self.assertEqual(between(Net(1), 0, 0), (0, 1))

    def test_sizes_of_pushes_and_holds_dont_count(self):
        pieces = [("piece", 0, 1, 2), ("piece", 1, 2, 3), ("piece", 2, 3, 4)]
        for size in [0, 5, (-7, 2)]:
            net = net_of(4, pieces + [("push", 0, 3, size), ("push", 2, 2, size)])
            self.assertEqual(between(net, 0, 3), (9, 1))
            net = net_of(4, pieces + [("hold", 1, 2, size), ("push", 1, 0, 6)])
            self.assertEqual(between(net, 0, 3), (6, 1))
            self.assertEqual(between(net, 1, 2), (0, 1))
            self.assertEqual(between(net, 0, 2), (2, 1))

    def test_a_hold_joins_its_points(self):
        net = net_of(3, [("hold", 0, 1, 5), ("hold", 2, 1, -3)])
        self.assertEqual([between(net, a, b) for a in range(3) for b in range(3)], [(0, 1)] * 9)
        net = net_of(3, [("piece", 0, 1, 6), ("piece", 0, 2, 3), ("hold", 2, 1, 11)])
        self.assertEqual(between(net, 0, 1), (2, 1))

    def test_rows_from_a_point_to_itself(self):
        net = net_of(2, [("piece", 0, 1, 4), ("piece", 1, 1, 1), ("piece", 0, 0, 1)])
        self.assertEqual(between(net, 0, 1), (4, 1))

    def test_many_nets(self):
        nets = Nets(31)
        for net in nets.many_answered():
            if net.count() == 40:
                continue
            before = net.told()
            for turn in range(6):
                a, b = nets.chance.randrange(net.many()), nets.chance.randrange(net.many())
                size = between(net, a, b)
                self.assertTrue(is_fraction(size))
                self.assertEqual(size, Answer(quieted(net, b, a)).fall(a, b))
                self.assertEqual(between(net=net, a=b, b=a), size)
                self.assertEqual(between(net, a, b), size)
            self.assertEqual(net.told(), before)

    def test_it_is_what_a_table_of_two_ends_tells(self):
        nets = Nets(32)
        for turn in range(20):
            net = nets.answered(2 + turn % 6, 5)
            net = net_of(net.many(), [("piece" if row[0] == "hold" else row[0],) + row[1:3] + (nets.above_nought(),)
                                      for row in net.told()])
            a, b = nets.chance.sample(range(net.many()), 2)
            rows = table_of(net, [a, b]).net().told()
            self.assertEqual([row[3] for row in rows if row[0] == "piece"], [between(net, a, b)])

    def test_a_full_net(self):
        nets = Nets(33)
        net = nets.answered(20, 21)
        self.assertEqual(net.count(), 40)
        size = between(net, 3, 17)
        # One push fewer lets the one more be told in its place.
        place = [row[0] for row in net.told()].index("push")
        fewer = net_of(20, [row for number, row in enumerate(net.told()) if number != place])
        self.assertEqual(size, Answer(quieted(fewer, 17, 3)).fall(3, 17))
        self.assertEqual(net.count(), 40)

    def test_smaller_pieces_never_make_it_grow(self):
        nets = Nets(34)
        for turn in range(40):
            net = nets.answered(2 + turn % 5, 6)
            pieces = [number for number, row in enumerate(net.told()) if row[0] == "piece"]
            a, b = nets.chance.sample(range(net.many()), 2)
            before = Fraction(*between(net, a, b))
            for number in pieces:
                top, bottom = net.told()[number][3]
                smaller = net.copy()
                smaller.change(number, (top, bottom + top))
                after = Fraction(*between(smaller, a, b))
                self.assertLessEqual(after, before)
                self.assertGreaterEqual(after, 0)


class Refused(unittest.TestCase):
    def test_no_point(self):
        for net in [net_of(3, BRIDGE), net_of(3, [("hold", 0, 0, 1)]), Net(3)]:
            for thing in NO_POINTS + [3, 4, 20]:
                for a, b in [(thing, 0), (0, thing), (thing, thing)]:
                    with self.assertRaises(NoPoint):
                        between(net, a, b)
        with self.assertRaises(NoPoint):
            between(Net(1), 0, 1)

    def test_ring(self):
        net = net_of(3, [("hold", 0, 1, 5), ("piece", 0, 2, 1), ("hold", 0, 1, 3), ("hold", 2, 2, 4)])
        for a, b in [(0, 1), (1, 0), (0, 2), (1, 1), (2, 2)]:
            with self.assertRaises(Ring) as caught:
                between(net, a, b)
            self.assertEqual((caught.exception.ring, caught.exception.total), ([(2, 1), (0, -1)], (-2, 1)))

    def test_floats(self):
        net = net_of(5, [("piece", 0, 3, 1), ("push", 0, 1, 5), ("piece", 4, 2, 2)])
        for a, b in [(0, 3), (3, 0), (1, 2), (4, 2), (1, 1), (0, 0)]:
            with self.assertRaises(Floats) as caught:
                between(net, a, b)
            self.assertEqual(caught.exception.points, [1, 2, 4])

    def test_ring_ahead_of_floats(self):
        with self.assertRaises(Ring):
            between(net_of(3, [("hold", 1, 1, 5)]), 0, 0)

    def test_good_later(self):
        net = net_of(2, [("push", 0, 1, 3)])
        with self.assertRaises(Floats):
            between(net, 0, 1)
        net.add(net_of(2, [("piece", 0, 1, 8)]).rows()[0])
        self.assertEqual(between(net, 0, 1), (8, 1))

    def test_refused_as_answers_are(self):
        nets = Nets(35)
        for turn in range(60):
            net = nets.any_net(1 + turn % 4, turn % 7)
            held = rings(net, ["hold"])
            if held:
                with self.assertRaises(Ring) as caught:
                    between(net, 0, 0)
                self.assertEqual((caught.exception.ring, caught.exception.total), (held[0], ring_sum(net, held[0])))
            elif floating(net):
                with self.assertRaises(Floats) as caught:
                    between(net, 0, net.many() - 1)
                self.assertEqual(caught.exception.points, floating(net))
            else:
                between(net, 0, net.many() - 1)


if __name__ == "__main__":
    unittest.main()
