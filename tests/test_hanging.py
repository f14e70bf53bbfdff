"""What hangs together, what floats, and rings: [14], [15], and of [2] what speaks of them."""

import itertools
import unittest
from fractions import Fraction

from ohmyard.hanging import floating, groups, ring_sum, rings
from ohmyard.nets import Net
from ohmyard.rows import Hold, Piece, Push
from samples import BRIDGE, Nets, net_of, told

WORDS = ["piece", "push", "hold"]


def plain_groups(net):
    apart = [{point} for point in range(net.many())]
    for word, start, goal, size in net.told():
        if word != "push":
            one = [group for group in apart if start in group][0]
            other = [group for group in apart if goal in group][0]
            apart = [group for group in apart if group not in (one, other)] + [one | other]
    return sorted(sorted(group) for group in apart)


def plain_ways(rows, numbers, begin, end):
    """Every way from begin to end along these rows that goes along none of them twice."""
    found = [[]] if begin == end else []
    for number in numbers:
        word, start, goal, size = rows[number]
        rest = [other for other in numbers if other != number]
        if start == begin:
            found += [[(number, 1)] + way for way in plain_ways(rows, rest, goal, end)]
        elif goal == begin:
            found += [[(number, -1)] + way for way in plain_ways(rows, rest, start, end)]
    return found


def plain_rings(net, words):
    rows = net.told()
    ahead, found = [], []
    for number, row in enumerate(rows):
        if row[0] in words:
            ways = plain_ways(rows, ahead, row[2], row[1])
            if ways:
                assert len(ways) == 1
                found.append([(number, 1)] + ways[0])
            else:
                ahead.append(number)
    return found


class Groups(unittest.TestCase):
    def test_points_without_rows(self):
        self.assertEqual(groups(Net(1)), [[0]])
        self.assertEqual(floating(Net(1)), [])
        self.assertEqual(groups(Net(3)), [[0], [1], [2]])
        self.assertEqual(floating(Net(3)), [1, 2])
        self.assertEqual(floating(Net(20)), list(range(1, 20)))

    def test_pieces_and_holds_join_and_pushes_dont(self):
        for word, expected in [("piece", [[0, 2], [1]]), ("hold", [[0, 2], [1]]), ("push", [[0], [1], [2]])]:
            for start, goal in [(0, 2), (2, 0)]:
                net = net_of(3, [(word, start, goal, 1)])
                self.assertEqual(groups(net), expected)
                self.assertEqual(floating(net), [1] if word != "push" else [1, 2])

    def test_by_ways_of_several_rows_whichever_way_round(self):
        net = net_of(6, [("piece", 5, 3, 1), ("hold", 1, 3, 0), ("push", 0, 1, 2), ("piece", 4, 2, 1)])
        self.assertEqual(groups(net), [[0], [1, 3, 5], [2, 4]])
        self.assertEqual(floating(net), [1, 2, 3, 4, 5])
        net = net_of(5, [("piece", 4, 3, 1), ("piece", 2, 3, 1), ("hold", 2, 0, 5)])
        self.assertEqual(groups(net), [[0, 2, 3, 4], [1]])
        self.assertEqual(floating(net), [1])

    def test_the_order_of_first_points(self):
        net = net_of(5, [("piece", 4, 0, 1), ("piece", 3, 1, 1)])
        self.assertEqual(groups(net), [[0, 4], [1, 3], [2]])

    def test_rows_from_a_point_to_itself(self):
        net = net_of(2, [("piece", 1, 1, 1), ("hold", 1, 1, 0), ("push", 1, 1, 1), ("piece", 0, 0, 1)])
        self.assertEqual(groups(net), [[0], [1]])
        self.assertEqual(floating(net), [1])

    def test_told_again(self):
        net = net_of(3, [("piece", 0, 1, 1)])
        first = groups(net)
        self.assertEqual((first, floating(net)), ([[0, 1], [2]], [2]))
        net.add(Push(1, 2, (1, 1)))
        self.assertEqual((groups(net), floating(net)), ([[0, 1], [2]], [2]))
        net.add(Piece(2, 1, (1, 1)))
        self.assertEqual((groups(net), floating(net)), ([[0, 1, 2]], []))
        self.assertEqual(first, [[0, 1], [2]])

    def test_many_nets(self):
        nets = Nets(1)
        for many, count in itertools.product([1, 2, 3, 6, 12, 20], [0, 1, 3, 8, 14]):
            net = nets.any_net(many, count)
            before = net.told()
            found = groups(net)
            self.assertEqual(found, plain_groups(net))
            self.assertEqual(floating(net), [point for point in range(many) if point not in found[0]])
            self.assertEqual(net.told(), before)

    def test_by_the_name_of_the_argument(self):
        self.assertEqual((groups(net=Net(1)), floating(net=Net(2))), ([[0]], [1]))

    def test_lists_are_the_askers_own(self):
        net = net_of(3, [("piece", 0, 1, 1)])
        first = groups(net)
        first[0].append(9)
        first.clear()
        floating(net).append(9)
        self.assertEqual((groups(net), floating(net)), ([[0, 1], [2]], [2]))


class Rings(unittest.TestCase):
    def net(self):
        return net_of(4, [
            ("piece", 0, 1, 1), ("hold", 2, 1, 2), ("push", 0, 2, 3), ("piece", 2, 0, 4),
            ("hold", 1, 3, 5), ("hold", 3, 2, 6), ("push", 2, 0, 7), ("piece", 3, 0, 8),
        ])

    def test_the_way_back_row_by_row(self):
        self.assertEqual(rings(self.net()), [
            [(3, 1), (0, 1), (1, -1)],
            [(5, 1), (1, 1), (4, 1)],
            [(7, 1), (0, 1), (4, 1)],
        ])

    def test_by_words(self):
        net = self.net()
        both = rings(net)
        self.assertEqual(rings(net, None), both)
        self.assertEqual(rings(net, words=["hold", "piece"]), both)
        self.assertEqual(rings(net, ["piece", "hold"]), both)
        self.assertEqual(rings(net, []), [])
        self.assertEqual(rings(net, ["hold"]), [[(5, 1), (1, 1), (4, 1)]])
        self.assertEqual(rings(net, ["piece"]), [])
        self.assertEqual(rings(net, ["push"]), [[(6, 1), (2, 1)]])
        self.assertEqual(rings(net, ["piece", "push"]), [[(3, 1), (2, 1)], [(6, 1), (2, 1)]])
        self.assertEqual(rings(net, WORDS), [
            [(2, 1), (1, 1), (0, -1)],
            [(3, 1), (0, 1), (1, -1)],
            [(5, 1), (1, 1), (4, 1)],
            [(6, 1), (0, 1), (1, -1)],
            [(7, 1), (0, 1), (4, 1)],
        ])

    def test_rows_from_a_point_to_itself(self):
        net = net_of(2, [("piece", 1, 1, 1), ("hold", 0, 0, 2), ("push", 1, 1, 3), ("piece", 0, 1, 4), ("hold", 1, 1, 5)])
        self.assertEqual(rings(net), [[(0, 1)], [(1, 1)], [(4, 1)]])
        self.assertEqual(rings(net, ["push"]), [[(2, 1)]])
        self.assertEqual(rings(net, ["hold"]), [[(1, 1)], [(4, 1)]])

    def test_two_rows_between_the_same_points(self):
        self.assertEqual(rings(net_of(2, [("piece", 0, 1, 1), ("piece", 0, 1, 1)])), [[(1, 1), (0, -1)]])
        self.assertEqual(rings(net_of(2, [("piece", 0, 1, 1), ("hold", 1, 0, 1)])), [[(1, 1), (0, 1)]])

    def test_along_rows_that_closed_no_ring_alone(self):
        net = net_of(3, [("piece", 0, 1, 1), ("piece", 1, 2, 1), ("piece", 2, 0, 1), ("piece", 0, 2, 1)])
        self.assertEqual(rings(net), [[(2, 1), (0, 1), (1, 1)], [(3, 1), (1, -1), (0, -1)]])

    def test_along_rows_ahead_alone(self):
        net = net_of(3, [("hold", 0, 1, 1), ("piece", 1, 0, 1), ("piece", 1, 2, 1), ("hold", 2, 0, 1)])
        self.assertEqual(rings(net), [[(1, 1), (0, 1)], [(3, 1), (0, 1), (2, 1)]])
        self.assertEqual(rings(net, ["piece"]), [])
        self.assertEqual(rings(net, ["hold"]), [])

    def test_none(self):
        self.assertEqual(rings(Net(1)), [])
        self.assertEqual(rings(Net(20)), [])
        self.assertEqual(rings(net_of(3, [("piece", 0, 1, 1), ("push", 0, 1, 1), ("push", 1, 0, 1)])), [])

    def test_long_ones(self):
        rows = [("piece" if point % 2 else "hold", point, point + 1, 1) for point in range(19)] + [("piece", 0, 19, 1)]
        self.assertEqual(rings(net_of(20, rows)), [[(19, 1)] + [(number, -1) for number in range(18, -1, -1)]])

    def test_many_nets(self):
        nets = Nets(2)
        choices = [None, [], ["piece"], ["push"], ["hold"], ["piece", "push"], ["hold", "push"], WORDS]
        for many, count in itertools.product([1, 2, 4, 7], [0, 2, 5, 9]):
            net = nets.any_net(many, count)
            before = net.told()
            for words in choices:
                kept = None if words is None else list(words)
                found = rings(net, words)
                self.assertEqual(found, plain_rings(net, ["piece", "hold"] if words is None else words))
                self.assertEqual(rings(net, words), found)
                self.assertEqual((words, net.told()), (kept, before))

    def test_the_askers_own(self):
        net = self.net()
        words = ["hold"]
        first = rings(net, words)
        kept = [list(ring) for ring in first]
        words.append("piece")
        net.add(Hold(0, 0, (1, 1)))
        self.assertEqual(first, kept)
        first[0].clear()
        first.append("more")
        self.assertEqual(rings(net, ["hold"]), kept + [[(8, 1)]])
        for ring in rings(net):
            self.assertIs(type(ring), list)
            for step in ring:
                self.assertIs(type(step), tuple)


class RingSum(unittest.TestCase):
    def test_way_times_size(self):
        net = net_of(3, [("hold", 0, 1, 5), ("hold", 2, 1, (1, 2)), ("hold", 2, 0, (4, 3))])
        ring = rings(net, ["hold"])[0]
        self.assertEqual(ring, [(2, 1), (0, 1), (1, -1)])
        self.assertEqual(ring_sum(net, ring), (35, 6))
        self.assertEqual(ring_sum(net, [(0, -1), (2, -1), (1, 1)]), (-35, 6))
        self.assertEqual(ring_sum(net, []), (0, 1))
        self.assertEqual(ring_sum(ring=[(1, -1)], net=net), (-1, 2))
        self.assertEqual(ring, [(2, 1), (0, 1), (1, -1)])

    def test_behind_a_change(self):
        net = net_of(2, [("hold", 0, 1, 5), ("hold", 0, 1, 5)])
        ring = rings(net, ["hold"])[0]
        self.assertEqual(ring_sum(net, ring), (0, 1))
        net.change(0, (7, 2))
        self.assertEqual(ring_sum(net, ring), (3, 2))
        net.change(1, (-1, 1))
        self.assertEqual(ring_sum(net, ring), (-9, 2))

    def test_over_rows_of_any_word(self):
        net = net_of(3, BRIDGE)
        for ring in rings(net, WORDS):
            size = net.told()
            plain = sum(way * Fraction(*size[number][3]) for number, way in ring)
            self.assertEqual(ring_sum(net, ring), told(plain))


if __name__ == "__main__":
    unittest.main()
