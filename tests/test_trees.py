"""Trees and partings: [31], and of [2], [3], [4] what speaks of them."""

import itertools
import unittest
from fractions import Fraction

from ohmyard.between import between
from ohmyard.errors import Held, NoPoint, TooMany
from ohmyard.hanging import floating, groups, rings
from ohmyard.nets import Net
from ohmyard.ratios import is_fraction, over, total
from ohmyard.rows import Hold, Piece, Push
from ohmyard.trees import partings, share_of, tree_sum, trees
from samples import Nets, net_of, told

NO_POINTS = [
    -1, -2, 10 ** 5000, True, False, None, "", "0", "1", b"0", 0.0, 1.0, Fraction(1), (), (0,), [], [0], {}, {0: 1}, {0},
    object(), int,
]
SQUARE = [("piece", 0, 1, 2), ("piece", 1, 2, 3), ("push", 0, 2, 9), ("piece", 2, 3, 4), ("piece", 3, 0, 5)]
WHEEL = [("piece", 0, 1, 1), ("piece", 0, 2, 2), ("piece", 1, 2, 3), ("piece", 1, 3, 4), ("piece", 2, 3, 5)]


def all_sets(net):
    """All sets of pieces without a ring, each with the groups that it leaves."""
    rows = net.told()
    pieces = [number for number, row in enumerate(rows) if row[0] == "piece"]
    found = []
    for count in range(len(pieces) + 1):
        for numbers in itertools.combinations(pieces, count):
            kept = net_of(net.many(), [rows[number] for number in numbers])
            if not rings(kept):
                found.append((list(numbers), groups(kept)))
    return found


def plain_trees(net):
    return sorted(numbers for numbers, left in all_sets(net) if len(left) == 1)


def plain_partings(net, a, b):
    return sorted(numbers for numbers, left in all_sets(net)
                  if len(left) == 2 and (a in left[0]) != (b in left[0]))


def star(points, more=0):
    """A net of some pieces from the base, and more from the base to itself."""
    return net_of(points + 1, [("piece", 0, 1 + point, 2) for point in range(points)] + [("piece", 0, 0, 1)] * more)


class Shares(unittest.TestCase):
    def test_of_no_piece(self):
        self.assertEqual(share_of(net_of(4, SQUARE), []), (1, 1))
        self.assertEqual(share_of(Net(1), []), (1, 1))

    def test_of_some(self):
        net = net_of(3, [("piece", 0, 1, (2, 3)), ("push", 0, 1, 7), ("piece", 1, 2, 5), ("piece", 0, 0, (1, 4))])
        self.assertEqual(share_of(net, [0]), (3, 2))
        self.assertEqual(share_of(net, [0, 2]), (3, 10))
        self.assertEqual(share_of(net=net, numbers=[0, 2, 3]), (6, 5))


class Trees(unittest.TestCase):
    def test_a_square(self):
        net = net_of(4, SQUARE)
        self.assertEqual(trees(net), [[0, 1, 3], [0, 1, 4], [0, 3, 4], [1, 3, 4]])
        self.assertEqual(tree_sum(net), told(Fraction(2 + 3 + 4 + 5, 2 * 3 * 4 * 5)))

    def test_side_by_side(self):
        net = net_of(2, [("piece", 0, 1, 2), ("piece", 1, 0, 3), ("piece", 1, 1, 4)])
        self.assertEqual(trees(net), [[0], [1]])
        self.assertEqual(tree_sum(net), (5, 6))

    def test_one_point(self):
        for net in [Net(1), net_of(1, [("piece", 0, 0, 3), ("push", 0, 0, 3)])]:
            self.assertEqual(trees(net), [[]])
            self.assertEqual(tree_sum(net), (1, 1))

    def test_nets_that_dont_hang_together(self):
        for net in [Net(2), Net(20), net_of(3, [("piece", 0, 1, 1), ("piece", 2, 2, 1), ("push", 0, 2, 1)]),
                    net_of(3, [("piece", 1, 2, 1), ("piece", 2, 1, 1)])]:
            self.assertEqual(trees(net), [])
            self.assertEqual(tree_sum(net), (0, 1))

    def test_against_all_sets(self):
        nets = Nets(51)
        for turn in range(60):
            net = nets.any_net(1 + turn % 5, turn % 9, ("piece", "piece", "push"))
            before = net.told()
            found = trees(net)
            self.assertEqual(found, plain_trees(net))
            self.assertEqual(trees(net=net), found)
            self.assertEqual(tree_sum(net), total([share_of(net, numbers) for numbers in found]))
            self.assertEqual(tree_sum(net=net), tree_sum(net))
            self.assertTrue(is_fraction(tree_sum(net)))
            self.assertEqual(net.told(), before)

    def test_numbers_above_nine(self):
        rows = [("push", 0, 1, 1)] * 8 + [("piece", 0, 1, 2), ("piece", 0, 1, 3), ("piece", 1, 2, 3), ("piece", 0, 2, 1)]
        net = net_of(3, rows)
        self.assertEqual(trees(net), [[8, 10], [8, 11], [9, 10], [9, 11], [10, 11]])
        self.assertEqual(partings(net, 0, 2), [[8], [9], [10]])

    def test_twelve_pieces(self):
        net = star(6, 6)
        self.assertEqual(trees(net), [[0, 1, 2, 3, 4, 5]])
        self.assertEqual(tree_sum(net), (1, 64))
        mesh = [(i, j) for i in range(5) for j in range(i)]
        rows = [("piece", i, j, 1) for i, j in mesh] + [("piece", 0, 1, 1), ("piece", 2, 3, 1), ("push", 0, 1, 1)]
        net = net_of(5, rows)
        found = trees(net)
        self.assertEqual(len(found), Fraction(*tree_sum(net)))
        self.assertEqual(found, plain_trees(net))
        self.assertEqual(partings(net, 4, 0), plain_partings(net, 4, 0))

    def test_a_chain_of_thirteen_points(self):
        net = net_of(13, [("piece", point, point + 1, 1) for point in range(12)])
        self.assertEqual(trees(net), [list(range(12))])
        self.assertEqual(len(partings(net, 3, 7)), 4)

    def test_more_points_than_pieces_reach(self):
        net = net_of(20, [("piece", point, point + 1, 1) for point in range(12)])
        self.assertEqual((trees(net), partings(net, 0, 1), tree_sum(net)), ([], [], (0, 1)))

    def test_the_sum_of_many_pieces(self):
        # Of the full mesh of n points there are n to the n - 2 trees.
        net = net_of(9, [("piece", i, j, 1) for i in range(9) for j in range(i)])
        self.assertEqual(tree_sum(net), (9 ** 7, 1))
        net = net_of(2, [("piece", 0, 1, (1, 3))] * 40)
        self.assertEqual(tree_sum(net), (120, 1))


class Partings(unittest.TestCase):
    def test_a_square(self):
        net = net_of(4, SQUARE)
        self.assertEqual(partings(net, 0, 2), [[0, 3], [0, 4], [1, 3], [1, 4]])
        self.assertEqual(partings(net, 0, 1), [[1, 3], [1, 4], [3, 4]])

    def test_two_points(self):
        net = net_of(2, [("piece", 0, 1, 3), ("piece", 0, 1, 4)])
        self.assertEqual(partings(net, 0, 1), [[]])
        self.assertEqual(partings(Net(2), 1, 0), [[]])

    def test_of_a_point_and_itself(self):
        for net in [net_of(4, SQUARE), Net(1), Net(2), net_of(1, [("piece", 0, 0, 1)])]:
            for point in range(net.many()):
                self.assertEqual(partings(net, point, point), [])

    def test_nets_that_dont_hang_together(self):
        net = net_of(4, [("piece", 0, 1, 1), ("piece", 2, 3, 1), ("piece", 3, 2, 1)])
        self.assertEqual(partings(net, 0, 2), [[0, 1], [0, 2]])
        self.assertEqual(partings(net, 0, 1), [])
        self.assertEqual(partings(net, 3, 2), [])
        self.assertEqual(partings(Net(3), 0, 1), [])

    def test_against_all_sets(self):
        nets = Nets(52)
        for turn in range(40):
            net = nets.any_net(1 + turn % 5, turn % 8, ("piece", "piece", "push"))
            before = net.told()
            for a in range(net.many()):
                for b in range(net.many()):
                    found = partings(net, a, b)
                    self.assertEqual(found, plain_partings(net, a, b))
                    self.assertEqual(partings(net=net, a=b, b=a), found)
                    if not floating(net):
                        apart = total([share_of(net, numbers) for numbers in found])
                        self.assertEqual(between(net, a, b), over(apart, tree_sum(net)))
            self.assertEqual(net.told(), before)

    def test_the_wheel(self):
        net = net_of(4, WHEEL)
        apart = total([share_of(net, numbers) for numbers in partings(net, 0, 3)])
        self.assertEqual(over(apart, tree_sum(net)), (61, 21))


class Refused(unittest.TestCase):
    def test_too_many(self):
        for net in [star(12, 1), star(0, 13), net_of(2, [("piece", 0, 1, 1)] * 40)]:
            for question in [lambda: trees(net), lambda: partings(net, 0, net.many() - 1), lambda: partings(net, 0, 0)]:
                with self.assertRaises(TooMany):
                    question()
            self.assertTrue(is_fraction(tree_sum(net)))

    def test_pushes_dont_count(self):
        rows = [("push", 0, 1, 1)] * 28 + [("piece", 0, 1, 1)] * 12
        net = net_of(2, rows)
        self.assertEqual(trees(net), [[number] for number in range(28, 40)])
        self.assertEqual(partings(net, 0, 1), [[]])

    def test_held(self):
        net = net_of(3, [("piece", 0, 1, 1), ("push", 0, 1, 1), ("hold", 1, 2, 0), ("hold", 0, 0, 0)])
        for question in [lambda: trees(net), lambda: partings(net, 0, 1), lambda: partings(net, 2, 2), lambda: tree_sum(net)]:
            with self.assertRaises(Held) as caught:
                question()
            self.assertEqual(caught.exception.number, 2)
        with self.assertRaises(Held) as caught:
            tree_sum(net_of(1, [("hold", 0, 0, 0)]))
        self.assertEqual(caught.exception.number, 0)

    def test_no_point(self):
        held = net_of(3, [("hold", 0, 1, 1)] + [("piece", 0, 1, 1)] * 13)
        for net in [net_of(3, [("piece", 0, 1, 1)]), held, net_of(3, [("piece", 0, 1, 1)] * 13)]:
            for thing in NO_POINTS + [3, 4, 20]:
                for a, b in [(thing, 0), (0, thing), (thing, thing)]:
                    with self.assertRaises(NoPoint):
                        partings(net, a, b)

    def test_held_ahead_of_too_many(self):
        net = net_of(2, [("piece", 0, 1, 1)] * 13 + [("hold", 0, 1, 1)])
        for question in [lambda: trees(net), lambda: partings(net, 0, 1), lambda: partings(net, 1, 1)]:
            with self.assertRaises(Held) as caught:
                question()
            self.assertEqual(caught.exception.number, 13)

    def test_what_is_refused_changes_nothing(self):
        net = net_of(2, [("piece", 0, 1, 1)] * 12)
        kept = trees(net)
        self.assertEqual(len(kept), 12)
        net.add(Piece(1, 1, (1, 1)))
        with self.assertRaises(TooMany):
            trees(net)
        self.assertEqual((net.count(), tree_sum(net)), (13, (12, 1)))
        net.add(Hold(0, 1, (1, 1)))
        with self.assertRaises(Held):
            tree_sum(net)
        self.assertEqual(net.count(), 14)


class TheAskersOwn(unittest.TestCase):
    def test_lists(self):
        net = net_of(4, SQUARE)
        for question in [lambda: trees(net), lambda: partings(net, 0, 2)]:
            first = question()
            kept = [list(numbers) for numbers in first]
            first[0].append(99)
            first[1].clear()
            first.pop()
            self.assertEqual(question(), kept)

    def test_what_is_handed_in(self):
        net = net_of(4, SQUARE)
        numbers = [3, 0]
        self.assertEqual(share_of(net, numbers), (1, 8))
        self.assertEqual(numbers, [3, 0])

    def test_what_is_done_to_the_net_later(self):
        net = net_of(4, SQUARE)
        found = trees(net)
        kept = [list(numbers) for numbers in found]
        net.add(Piece(0, 2, (1, 1)))
        net.add(Push(0, 2, (1, 1)))
        self.assertEqual(found, kept)
        self.assertEqual(len(trees(net)), 8)


if __name__ == "__main__":
    unittest.main()
