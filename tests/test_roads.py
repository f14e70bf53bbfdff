"""Roads between points: [30], and of [2], [3], [4] what speaks of them."""

import unittest
from fractions import Fraction

from ohmyard.between import between
from ohmyard.errors import NoPoint, NoRoad
from ohmyard.hanging import groups
from ohmyard.nets import Net
from ohmyard.rows import Piece
from ohmyard.roads import distances, least_road, road_sum
from samples import BRIDGE, Nets, net_of, told

NO_POINTS = [
    -1, -2, 10 ** 5000, True, False, None, "", "0", "1", b"0", 0.0, 1.0, Fraction(1), (), (0,), [], [0], {}, {0: 1}, {0},
    object(), int,
]


def all_roads(net, a, b):
    """Every road from a to b that comes to no point twice."""
    rows = net.told()
    if a == b:
        return [[]]
    found = []

    def go(point, road, seen):
        if point == b:
            found.append(road)
            return
        for number, (word, start, goal, size) in enumerate(rows):
            for begin, end, way in [(start, goal, 1), (goal, start, -1)]:
                if word != "push" and begin == point and end not in seen:
                    go(end, road + [(number, way)], seen + [end])

    go(a, [], [a])
    return found


def plain_sum(net, road):
    rows = net.told()
    return told(sum(Fraction(*rows[number][3]) for number, way in road if rows[number][0] == "piece"))


class Roads(unittest.TestCase):
    def check_road(self, net, a, b, road):
        rows = net.told()
        point = a
        come_to = [a]
        for number, way in road:
            word, start, goal, size = rows[number]
            self.assertIn(word, ["piece", "hold"])
            self.assertIn(way, [1, -1])
            self.assertEqual(start if way == 1 else goal, point)
            point = goal if way == 1 else start
            come_to.append(point)
        self.assertEqual(point, b)
        self.assertEqual(len(come_to), len(set(come_to)))

    def test_one_written_out(self):
        net = net_of(4, [
            ("piece", 0, 1, 5), ("piece", 0, 2, 1), ("piece", 1, 2, 2), ("push", 0, 3, 1), ("piece", 3, 1, (1, 2)),
            ("piece", 0, 1, 4), ("piece", 0, 3, 9), ("piece", 2, 2, 1),
        ])
        self.assertEqual(distances(net, 0), [(0, 1), (3, 1), (1, 1), (7, 2)])
        self.assertEqual(least_road(net, 0, 3), [(1, 1), (2, -1), (4, -1)])
        self.assertEqual(least_road(net, 3, 0), [(4, 1), (2, 1), (1, -1)])
        self.assertEqual(least_road(net, 1, 0), [(2, 1), (1, -1)])
        self.assertEqual(distances(net, 3), [(7, 2), (1, 2), (5, 2), (0, 1)])

    def test_holds_cost_nothing(self):
        net = net_of(3, [("piece", 0, 1, 2), ("hold", 1, 2, 100), ("piece", 0, 2, 5), ("hold", 0, 0, -3)])
        self.assertEqual(distances(net, 0), [(0, 1), (2, 1), (2, 1)])
        self.assertEqual(least_road(net, 0, 2), [(0, 1), (1, 1)])
        self.assertEqual(least_road(net, 2, 0), [(1, -1), (0, -1)])
        self.assertEqual(road_sum(net, [(0, 1), (1, 1)]), (2, 1))

    def test_holds_in_a_ring(self):
        net = net_of(4, [("hold", 0, 1, 1), ("hold", 1, 2, 1), ("hold", 2, 0, 1), ("piece", 2, 3, 7), ("hold", 1, 1, 4)])
        self.assertEqual(distances(net, 1), [(0, 1), (0, 1), (0, 1), (7, 1)])
        self.check_road(net, 0, 3, least_road(net, 0, 3))
        self.assertEqual(road_sum(net, least_road(net, 0, 3)), (7, 1))

    def test_a_hold_ahead_of_a_piece(self):
        net = net_of(2, [("piece", 0, 1, (1, 9)), ("hold", 1, 0, 50)])
        self.assertEqual(least_road(net, 0, 1), [(1, -1)])
        self.assertEqual(distances(net, 0), [(0, 1), (0, 1)])

    def test_from_a_point_to_itself(self):
        net = net_of(3, [("hold", 0, 0, 3), ("piece", 1, 1, 2), ("hold", 0, 1, 2)])
        for point in range(3):
            self.assertEqual(least_road(net, point, point), [])
            self.assertEqual(distances(net, point)[point], (0, 1))
        self.assertEqual((distances(Net(1), 0), least_road(Net(1), 0, 0)), ([(0, 1)], []))

    def test_none(self):
        net = net_of(5, [("piece", 1, 3, 2), ("push", 0, 1, 1), ("piece", 2, 0, 3)])
        self.assertEqual(distances(net, 0), [(0, 1), None, (3, 1), None, None])
        self.assertEqual(distances(net, 3), [None, (2, 1), None, (0, 1), None])
        self.assertEqual(distances(net, 4), [None, None, None, None, (0, 1)])

    def test_against_all_roads(self):
        nets = Nets(41)
        for turn in range(60):
            net = nets.any_net(1 + turn % 5, turn % 10, ("piece", "piece", "hold", "push"))
            before = net.told()
            for a in range(net.many()):
                found = distances(net, a)
                self.assertEqual(distances(net=net, a=a), found)
                self.assertEqual(len(found), net.many())
                for b in range(net.many()):
                    sums = [plain_sum(net, road) for road in all_roads(net, a, b)]
                    if not sums:
                        self.assertIsNone(found[b])
                        with self.assertRaises(NoRoad):
                            least_road(net, a, b)
                        continue
                    self.assertEqual(found[b], min(sums, key=lambda one: Fraction(*one)))
                    road = least_road(net, a, b)
                    self.assertIs(type(road), list)
                    self.check_road(net, a, b, road)
                    self.assertEqual(plain_sum(net, road), found[b])
                    self.assertEqual(least_road(net=net, a=a, b=b), road)
            self.assertEqual(net.told(), before)

    def test_a_full_net(self):
        net = Nets(42).answered(20, 21)
        found = distances(net, 4)
        for b in range(20):
            road = least_road(net, 4, b)
            self.check_road(net, 4, b, road)
            self.assertEqual(road_sum(net, road), found[b])

    def test_hanging_together(self):
        nets = Nets(43)
        for turn in range(20):
            net = nets.any_net(6, 5)
            for group in groups(net):
                for point in group:
                    found = distances(net, point)
                    self.assertEqual([place for place, one in enumerate(found) if one is not None], group)


class Sums(unittest.TestCase):
    def test_of_no_row(self):
        self.assertEqual(road_sum(net_of(3, BRIDGE), []), (0, 1))
        self.assertEqual(road_sum(Net(1), []), (0, 1))

    def test_each_as_often_as_it_is_gone_along(self):
        net = net_of(3, [("piece", 0, 1, (1, 2)), ("hold", 1, 2, 8), ("piece", 2, 2, 5)])
        self.assertEqual(road_sum(net, [(0, 1), (0, -1), (0, 1)]), (3, 2))
        self.assertEqual(road_sum(net, [(0, 1), (1, 1), (2, 1), (2, -1), (1, -1), (0, -1)]), (11, 1))
        self.assertEqual(road_sum(net=net, road=[(1, 1), (1, -1)]), (0, 1))

    def test_the_way_counts_not(self):
        net = net_of(2, [("piece", 0, 1, 3)])
        self.assertEqual(road_sum(net, [(0, -1)]), (3, 1))

    def test_never_less_than_the_size_between(self):
        nets = Nets(44)
        for turn in range(30):
            net = nets.answered(1 + turn % 5, 4)
            a, b = nets.chance.randrange(net.many()), nets.chance.randrange(net.many())
            size = Fraction(*between(net, a, b))
            for road in all_roads(net, a, b):
                self.assertEqual(road_sum(net, road), plain_sum(net, road))
                self.assertLessEqual(size, Fraction(*road_sum(net, road)))
            self.assertLessEqual(size, Fraction(*distances(net, a)[b]))


class Refused(unittest.TestCase):
    def test_no_point(self):
        net = net_of(3, [("piece", 0, 1, 1)])
        for thing in NO_POINTS + [3, 4, 20]:
            with self.assertRaises(NoPoint):
                distances(net, thing)
            for a, b in [(thing, 0), (0, thing), (thing, thing), (thing, 2), (2, thing)]:
                with self.assertRaises(NoPoint):
                    least_road(net, a, b)

    def test_no_road(self):
        net = net_of(3, [("piece", 0, 1, 1), ("push", 0, 2, 1)])
        for a, b in [(0, 2), (2, 0), (1, 2)]:
            with self.assertRaises(NoRoad):
                least_road(net, a, b)
        net.add(Piece(2, 1, (1, 1)))
        self.assertEqual(least_road(net, 0, 2), [(0, 1), (2, -1)])


class TheAskersOwn(unittest.TestCase):
    def test_lists(self):
        net = net_of(3, [("piece", 0, 1, 1), ("piece", 1, 2, 3)])
        for question in [lambda: distances(net, 0), lambda: least_road(net, 0, 2), lambda: least_road(net, 1, 1)]:
            first = question()
            kept = list(first)
            first.append("more")
            first[0] = "other"
            self.assertEqual(question(), kept)

    def test_what_is_handed_in(self):
        net = net_of(3, BRIDGE)
        road = [(1, 1), (2, 1)]
        road_sum(net, road)
        self.assertEqual(road, [(1, 1), (2, 1)])
        self.assertEqual(net.told(), net_of(3, BRIDGE).told())

    def test_what_is_done_to_the_net_later(self):
        net = net_of(3, [("piece", 0, 1, 1), ("piece", 1, 2, 3)])
        found, road = distances(net, 0), least_road(net, 0, 2)
        net.change(0, (7, 1))
        net.add(Piece(0, 2, (1, 9)))
        self.assertEqual((found, road), ([(0, 1), (1, 1), (4, 1)], [(0, 1), (1, 1)]))
        self.assertEqual(least_road(net, 0, 2), [(2, 1)])


if __name__ == "__main__":
    unittest.main()
