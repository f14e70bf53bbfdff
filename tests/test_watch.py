"""One row changed: [32], [33], [34], and of [2], [3], [4] what speaks of them."""

import copy
import unittest
from fractions import Fraction

from ohmyard.errors import Floats, NoRow, NoSize, Ring
from ohmyard.hanging import floating, ring_sum, rings
from ohmyard.heights import Answer
from ohmyard.nets import Net
from ohmyard.ratios import is_fraction, minus, over, plus, times
from ohmyard.rows import Hold, Piece, Push
from ohmyard.watch import Watch, block_of, shape_of
from samples import BRIDGE, Nets, net_of, told

NO_NUMBERS = [
    -1, -2, 10 ** 5000, True, False, None, "", "0", "1", b"0", 0.0, 1.0, Fraction(1), (), (0,), [], [0], {}, {0: 1}, {0},
    object(), int,
]
NO_SIZES = [
    None, True, False, 0, 1, "1", "1/2", b"1", 1.0, Fraction(1, 2), (), (1,), (1, 2, 3), (2, 4), (1, 0), (1, -2), (0, 2),
    (True, 1), (1, True), ("1", "2"), (1.0, 2), [1, 2], [], {}, {1: 2}, object(), (None, None),
]
NO_PIECE_SIZES = [(0, 1), (-1, 1), (-1, 2)]


def all_rings(net):
    """All rings that come to no point twice, as lists of numbers; two rows between the same points make one."""
    rows = net.told()
    joining = [number for number, row in enumerate(rows) if row[0] != "push"]
    found = []

    def go(first, point, numbers, seen):
        for number in joining:
            for begin, end in [rows[number][1:3], rows[number][2:0:-1]]:
                if number in numbers or begin != point:
                    continue
                if end == first:
                    found.append(sorted(numbers + [number]))
                elif end not in seen:
                    go(first, end, numbers + [number], seen + [end])

    for point in range(net.many()):
        go(point, point, [], [point])
    return found


def plain_block(net, k):
    block = {k}
    for ring in all_rings(net):
        if k in ring:
            block.update(ring)
    return sorted(block)


def plain_shape(net, k):
    """Of a net with fewer than forty rows: the heights of the net that the document tells."""
    word, start, goal, size = net.told()[k]
    made = net.copy()
    for number, row in enumerate(net.told()):
        if row[0] != "piece":
            made.change(number, (1, 1) if number == k and word == "hold" else (0, 1))
    if word != "hold":
        made.add(Push(goal, start, (1, 1)))
    return Answer(made).heights()


class Blocks(unittest.TestCase):
    def test_two_rings_at_one_point(self):
        net = net_of(5, [
            ("piece", 0, 1, 1), ("piece", 1, 2, 1), ("hold", 2, 0, 1), ("piece", 2, 3, 1), ("piece", 3, 4, 1),
            ("piece", 4, 2, 1), ("push", 0, 4, 1), ("piece", 3, 3, 1),
        ])
        for k in [0, 1, 2]:
            self.assertEqual(block_of(net, k), [0, 1, 2])
        for k in [3, 4, 5]:
            self.assertEqual(block_of(net, k), [3, 4, 5])
        self.assertEqual(block_of(net, 6), [6])
        self.assertEqual(block_of(net, 7), [7])

    def test_a_chain_of_rings(self):
        # The ladder's rings each share a rung with the next one: the outer way round takes in first and last.
        net = net_of(6, [
            ("piece", 0, 1, 1), ("piece", 0, 2, 1), ("piece", 1, 3, 1), ("piece", 2, 3, 1), ("piece", 2, 4, 1),
            ("piece", 3, 5, 1), ("piece", 4, 5, 1),
        ])
        for k in range(7):
            self.assertEqual(block_of(net, k), list(range(7)))

    def test_two_rows_between_the_same_points(self):
        net = net_of(3, [("piece", 0, 1, 1), ("piece", 1, 2, 1), ("hold", 2, 1, 1), ("piece", 1, 2, 3)])
        self.assertEqual(block_of(net, 0), [0])
        for k in [1, 2, 3]:
            self.assertEqual(block_of(net, k), [1, 2, 3])

    def test_on_no_ring(self):
        net = net_of(3, [("piece", 0, 1, 1), ("piece", 1, 2, 1), ("push", 2, 0, 1), ("push", 2, 0, 1)])
        for k in range(4):
            self.assertEqual(block_of(net, k), [k])

    def test_from_a_point_to_itself(self):
        net = net_of(2, [("piece", 0, 0, 1), ("hold", 0, 0, 1), ("push", 0, 0, 1), ("piece", 0, 1, 1), ("piece", 1, 0, 1)])
        for k in [0, 1, 2]:
            self.assertEqual(block_of(net, k), [k])
        self.assertEqual(block_of(net, 3), [3, 4])

    def test_nets_with_holds_in_a_ring_and_points_that_float(self):
        net = net_of(5, [("hold", 1, 2, 1), ("hold", 2, 1, 4), ("piece", 3, 4, 1)])
        self.assertEqual([block_of(net, k) for k in range(3)], [[0, 1], [0, 1], [2]])

    def test_against_all_rings(self):
        nets = Nets(61)
        for turn in range(80):
            net = nets.any_net(1 + turn % 5, turn % 9, ("piece", "piece", "piece", "hold", "push"))
            before = net.told()
            for k in range(net.count()):
                self.assertEqual(block_of(net, k), plain_block(net, k))
                self.assertEqual(block_of(net=net, k=k), block_of(net, k))
            self.assertEqual(net.told(), before)

    def test_no_row(self):
        for net in [net_of(3, BRIDGE), Net(1), net_of(2, [("hold", 0, 0, 1)])]:
            for thing in NO_NUMBERS + [net.count(), net.count() + 1]:
                with self.assertRaises(NoRow):
                    block_of(net, thing)

    def test_the_askers_own(self):
        net = net_of(2, [("piece", 0, 1, 1), ("piece", 1, 0, 1)])
        block_of(net, 0).clear()
        self.assertEqual(block_of(net, 0), [0, 1])


class Shapes(unittest.TestCase):
    def test_of_a_piece(self):
        net = net_of(3, [("piece", 0, 1, 2), ("piece", 1, 2, 3), ("push", 2, 0, 8)])
        self.assertEqual(shape_of(net, 0), [(0, 1), (-2, 1), (-2, 1)])
        self.assertEqual(shape_of(net, 1), [(0, 1), (0, 1), (-3, 1)])

    def test_of_a_push(self):
        net = net_of(3, [("piece", 0, 1, 2), ("piece", 1, 2, 3), ("push", 2, 0, 8), ("push", 1, 1, 4)])
        self.assertEqual(shape_of(net, 2), [(0, 1), (2, 1), (5, 1)])
        self.assertEqual(shape_of(net, 3), [(0, 1), (0, 1), (0, 1)])

    def test_of_a_hold(self):
        net = net_of(4, [("hold", 1, 0, 5), ("piece", 1, 2, 3), ("piece", 2, 0, 1), ("hold", 3, 2, 7), ("push", 0, 3, 2)])
        self.assertEqual(shape_of(net, 0), [(0, 1), (1, 1), (1, 4), (1, 4)])
        self.assertEqual(shape_of(net, 3), [(0, 1), (0, 1), (0, 1), (1, 1)])

    def test_of_one_point(self):
        net = net_of(1, [("piece", 0, 0, 2), ("push", 0, 0, 2)])
        self.assertEqual([shape_of(net, k) for k in range(2)], [[(0, 1)], [(0, 1)]])

    def test_many_nets(self):
        nets = Nets(62)
        for net in nets.many_answered():
            if net.count() == 40:
                continue
            before = net.told()
            for k in range(net.count()):
                shape = shape_of(net, k)
                self.assertEqual(shape, plain_shape(net, k))
                self.assertEqual(shape_of(net=net, k=k), shape)
            self.assertEqual(net.told(), before)

    def test_a_full_net(self):
        net = Nets(63).answered(20, 21)
        self.assertEqual(net.count(), 40)
        words = [row[0] for row in net.told()]
        place = words.index("push")
        fewer = net_of(20, [row for number, row in enumerate(net.told()) if number != place])
        for word in ["piece", "hold"]:
            k = max(number for number in range(40) if words[number] == word)
            self.assertEqual(shape_of(net, k), plain_shape(fewer, k - 1 if k > place else k))
        start, goal = net.told()[place][1:3]
        fewer.add(Push(start, goal, (0, 1)))
        self.assertEqual(shape_of(net, place), shape_of(fewer, 39))

    def test_no_row(self):
        for net in [net_of(3, BRIDGE), Net(1), Net(2), net_of(2, [("hold", 0, 0, 1)])]:
            for thing in NO_NUMBERS + [net.count(), net.count() + 1]:
                with self.assertRaises(NoRow):
                    shape_of(net, thing)

    def test_ring(self):
        net = net_of(3, [("hold", 0, 1, 5), ("hold", 0, 1, 3), ("piece", 1, 0, 1)])
        for k in range(3):
            with self.assertRaises(Ring) as caught:
                shape_of(net, k)
            self.assertEqual((caught.exception.ring, caught.exception.total), ([(1, 1), (0, -1)], (-2, 1)))

    def test_floats(self):
        net = net_of(4, [("piece", 0, 2, 5), ("push", 0, 1, 3), ("hold", 3, 1, 2)])
        for k in range(3):
            with self.assertRaises(Floats) as caught:
                shape_of(net, k)
            self.assertEqual(caught.exception.points, [1, 3])

    def test_the_askers_own(self):
        net = net_of(3, BRIDGE)
        for k in [0, 1, 3]:
            first = shape_of(net, k)
            kept = list(first)
            first.clear()
            self.assertEqual(shape_of(net, k), kept)


class Watched(unittest.TestCase):
    def check(self, watch, net):
        answer = Answer(net)
        self.assertEqual(watch.heights(), answer.heights())
        self.assertEqual(watch.streams(), answer.streams())
        self.assertEqual((watch.net().many(), watch.net().told()), (net.many(), net.told()))

    def drawn_size(self, nets, net, k):
        return nets.above_nought() if net.told()[k][0] == "piece" else nets.number()

    def test_a_push(self):
        watch = Watch(net_of(2, [("piece", 0, 1, 2), ("push", 0, 1, 3)]))
        self.assertEqual(watch.heights(), [(0, 1), (6, 1)])
        self.assertEqual(watch.change(1, (5, 1)), (-2, 1))
        self.assertEqual(watch.heights(), [(0, 1), (10, 1)])
        self.assertEqual(watch.streams(), [(-5, 1), (5, 1)])
        self.assertEqual(watch.change(1, (-1, 2)), (11, 2))

    def test_a_hold(self):
        watch = Watch(net_of(2, [("piece", 0, 1, 2), ("hold", 1, 0, 3)]))
        self.assertEqual(watch.change(1, (5, 1)), (2, 1))
        self.assertEqual(watch.heights(), [(0, 1), (5, 1)])
        self.assertEqual(watch.change(1, (0, 1)), (-5, 1))
        self.assertEqual(watch.streams(), [(0, 1), (0, 1)])

    def test_a_piece(self):
        watch = Watch(net_of(2, [("piece", 0, 1, 2), ("push", 0, 1, 3), ("piece", 1, 0, 2)]))
        self.assertEqual(watch.heights(), [(0, 1), (3, 1)])
        # d is 1/2, the fall -3, the shape's own fall 1: 3/2 by 3/2.
        self.assertEqual(watch.change(0, (1, 1)), (1, 1))
        self.assertEqual(watch.heights(), [(0, 1), (2, 1)])
        self.assertEqual(watch.change(0, (1, 1)), (0, 1))

    def test_rows_from_a_point_to_itself(self):
        watch = Watch(net_of(1, [("piece", 0, 0, 2), ("push", 0, 0, 3)]))
        self.assertEqual(watch.change(0, (5, 1)), (0, 1))
        self.assertEqual(watch.change(1, (5, 1)), (-2, 1))
        self.assertEqual((watch.heights(), watch.streams()), ([(0, 1)], [(0, 1), (5, 1)]))

    def test_through_changes(self):
        nets = Nets(64)
        for net in nets.many_answered():
            if net.count() == 0:
                continue
            watch = Watch(net)
            followed = net.copy()
            self.check(watch, followed)
            for turn in range(4):
                k = nets.chance.randrange(net.count())
                size = self.drawn_size(nets, net, k)
                self.check_change(watch, followed, k, size)
                followed.change(k, size)
                self.check(watch, followed)
            if net.many() < 12:
                self.assertEqual(watch.paper(), Answer(followed).paper())

    def check_change(self, watch, net, k, size):
        row = net.told()[k]
        before, streams = watch.heights(), watch.streams()
        shape = shape_of(net, k)
        factor = watch.change(k, size)
        self.assertTrue(is_fraction(factor))
        self.assertEqual(watch.heights(), [plus(height, times(factor, one)) for height, one in zip(before, shape)])
        if row[0] == "push":
            self.assertEqual(factor, minus(row[3], size))
        elif row[0] == "hold":
            self.assertEqual(factor, minus(size, row[3]))
        else:
            d = 1 / Fraction(*size) - 1 / Fraction(*row[3])
            fall = Fraction(*before[row[1]]) - Fraction(*before[row[2]])
            along = Fraction(*shape[row[1]]) - Fraction(*shape[row[2]])
            self.assertEqual(factor, told(-d * fall / (1 + d * along)))
        if row[0] != "push":
            block = block_of(net, k)
            after = watch.streams()
            for number in range(net.count()):
                if number not in block:
                    self.assertEqual(after[number], streams[number])

    def test_paper(self):
        net = net_of(3, BRIDGE)
        watch = Watch(net)
        self.assertEqual(watch.paper(), Answer(net).paper())
        watch.change(1, (7, 3))
        self.assertEqual(watch.paper(), Answer(watch.net()).paper())
        self.assertNotEqual(watch.paper(), Answer(net).paper())

    def test_there_and_back(self):
        net = net_of(3, BRIDGE)
        watch = Watch(net=net)
        kept = (watch.heights(), watch.streams(), watch.paper(), watch.net().told())
        for k, size in [(1, (9, 1)), (3, (-2, 1)), (0, (1, 1)), (0, (12, 1)), (3, (3, 1)), (1, (2, 1))]:
            watch.change(k=k, size=size)
        self.assertEqual((watch.heights(), watch.streams(), watch.paper(), watch.net().told()), kept)

    def test_a_full_net(self):
        nets = Nets(65)
        net = nets.answered(20, 21)
        self.assertEqual(net.count(), 40)
        watch = Watch(net)
        for k in [0, 17, 39]:
            size = self.drawn_size(nets, net, k)
            watch.change(k, size)
            net.change(k, size)
        self.check(watch, net)


class WatchRefused(unittest.TestCase):
    def test_when_made(self):
        nets = Nets(66)
        seen = {"ring": 0, "floats": 0}
        for turn in range(80):
            net = nets.any_net(1 + turn % 4, turn % 7)
            held = rings(net, ["hold"])
            if held:
                with self.assertRaises(Ring) as caught:
                    Watch(net)
                self.assertEqual((caught.exception.ring, caught.exception.total), (held[0], ring_sum(net, held[0])))
                seen["ring"] += 1
            elif floating(net):
                with self.assertRaises(Floats) as caught:
                    Watch(net)
                self.assertEqual(caught.exception.points, floating(net))
                seen["floats"] += 1
        self.assertGreater(min(seen.values()), 5)

    def test_changes(self):
        watch = Watch(net_of(3, BRIDGE))
        watch.change(2, (7, 1))
        kept = (watch.heights(), watch.streams(), watch.paper(), watch.net().told())
        for thing in NO_NUMBERS + [7, 8]:
            for size in [(1, 1), None, (0, 1), (2, 4)]:
                with self.assertRaises(NoRow):
                    watch.change(thing, size)
        for k in range(7):
            for size in NO_SIZES:
                with self.assertRaises(NoSize):
                    watch.change(k, size)
        for k in [1, 2, 4, 5]:
            for size in NO_PIECE_SIZES:
                with self.assertRaises(NoSize):
                    watch.change(k, size)
        self.assertEqual((watch.heights(), watch.streams(), watch.paper(), watch.net().told()), kept)
        for k in [0, 3, 6]:
            for size in NO_PIECE_SIZES:
                watch.change(k, size)
        with self.assertRaises(NoRow):
            Watch(Net(1)).change(0, (1, 1))


class TheWatchsOwn(unittest.TestCase):
    def seen(self, watch):
        return copy.deepcopy((watch.heights(), watch.streams(), watch.paper(), watch.net().told()))

    def test_the_net_handed_in(self):
        net = net_of(3, BRIDGE)
        watch = Watch(net)
        kept = self.seen(watch)
        net.change(1, (99, 1))
        net.add(Hold(0, 0, (1, 1)))
        self.assertEqual(self.seen(watch), kept)
        changed = net.told()
        watch.change(2, (8, 1))
        self.assertEqual(net.told(), changed)

    def test_the_nets_told(self):
        watch = Watch(net_of(3, BRIDGE))
        kept = self.seen(watch)
        first = watch.net()
        self.assertIsInstance(first, Net)
        first.change(1, (99, 1))
        first.add(Piece(0, 1, (1, 1)))
        self.assertEqual(self.seen(watch), kept)
        second = watch.net()
        watch.change(1, (5, 1))
        self.assertEqual(second.told(), kept[3])

    def test_lists(self):
        watch = Watch(net_of(3, BRIDGE))
        kept = self.seen(watch)
        heights, streams, paper = watch.heights(), watch.streams(), watch.paper()
        told_before = copy.deepcopy((heights, streams, paper))
        watch.change(1, (5, 1))
        self.assertEqual((heights, streams, paper), told_before)
        watch.change(1, (2, 1))
        heights.clear()
        streams[0] = "other"
        paper[0][0] = "other"
        paper.pop()
        self.assertEqual(self.seen(watch), kept)
        self.assertEqual(self.seen(watch), kept)

    def test_two_watches(self):
        net = net_of(2, [("piece", 0, 1, 2), ("push", 0, 1, 3)])
        first, second = Watch(net), Watch(net)
        first.change(1, (5, 1))
        self.assertEqual((first.heights()[1], second.heights()[1]), ((10, 1), (6, 1)))
        self.assertEqual(over(first.heights()[1], (2, 1)), (5, 1))


if __name__ == "__main__":
    unittest.main()
