"""The equations of a net and its answer: [16], [17], [18], and of [2], [3], [4] what speaks of them."""

import copy
import unittest
from fractions import Fraction

from ohmyard.errors import Floats, NoPoint, Ring
from ohmyard.hanging import floating, ring_sum, rings
from ohmyard.heights import Answer, equations
from ohmyard.nets import Net
from ohmyard.ratios import is_fraction
from ohmyard.rows import Hold, Piece, Push
from ohmyard.solving import multiples, summed
from samples import BRIDGE, Nets, net_of, told

NO_POINTS = [
    -1, -2, 10 ** 5000, True, False, None, "", "0", "1", b"0", 0.0, 1.0, Fraction(1), (), (0,), [], [0], {}, {0: 1}, {0},
    object(), int,
]


def wholes(rows):
    return [[(number, 1) for number in row] for row in rows]


def plain_equations(net):
    rows = net.told()
    holds = [number for number, row in enumerate(rows) if row[0] == "hold"]
    points = list(range(1, net.many()))
    matrix = [[Fraction(0)] * (len(points) + len(holds)) for line in points + holds]
    right = [Fraction(0) for line in points + holds]
    for place, point in enumerate(points):
        for number, (word, start, goal, size) in enumerate(rows):
            goes = (start == point) - (goal == point)
            size = Fraction(*size)
            if word == "push":
                right[place] -= goes * size
            elif word == "hold":
                matrix[place][len(points) + holds.index(number)] += goes
            else:
                for end, sign in [(start, 1), (goal, -1)]:
                    if end != 0:
                        matrix[place][end - 1] += goes * sign / size
    for place, number in enumerate(holds):
        word, start, goal, size = rows[number]
        for end, sign in [(start, 1), (goal, -1)]:
            if end != 0:
                matrix[len(points) + place][end - 1] += sign
        right[len(points) + place] = Fraction(*size)
    return ([[told(one) for one in line] for line in matrix], [told(one) for one in right])


def unit(many):
    return [[(1, 1) if row == column else (0, 1) for column in range(many)] for row in range(many)]


class Equations(unittest.TestCase):
    def test_pieces_and_pushes(self):
        net = net_of(3, [("piece", 0, 1, 2), ("piece", 2, 1, 4), ("push", 0, 2, 5), ("push", 1, 2, (1, 3)),
                         ("push", 1, 0, 2)])
        matrix, right = equations(net)
        self.assertEqual(matrix, [[(3, 4), (-1, 4)], [(-1, 4), (1, 4)]])
        self.assertEqual(right, [(-7, 3), (16, 3)])

    def test_holds_in_the_order_of_the_rows(self):
        net = net_of(3, [("hold", 2, 0, 7), ("piece", 0, 1, 1), ("hold", 1, 2, (1, 2))])
        self.assertEqual(equations(net), (wholes([
            [1, 0, 0, 1],
            [0, 0, 1, -1],
            [0, 1, 0, 0],
            [1, -1, 0, 0],
        ]), [(0, 1), (0, 1), (7, 1), (1, 2)]))

    def test_a_hold_from_the_base(self):
        self.assertEqual(equations(net_of(2, [("hold", 0, 1, 7)])), (wholes([[0, -1], [-1, 0]]), [(0, 1), (7, 1)]))

    def test_a_piece_from_a_point_to_itself_says_nothing(self):
        net = net_of(3, [("piece", 0, 1, 2), ("piece", 1, 2, 3)])
        before = equations(net)
        net.add(Piece(1, 1, (5, 7)))
        net.add(Piece(0, 0, (5, 7)))
        self.assertEqual(equations(net), before)

    def test_a_push_from_a_point_to_itself_says_nothing(self):
        net = net_of(3, [("piece", 0, 1, 2), ("push", 1, 2, 3)])
        before = equations(net)
        net.add(Push(1, 1, (5, 7)))
        net.add(Push(0, 0, (5, 7)))
        self.assertEqual(equations(net), before)

    def test_a_hold_from_a_point_to_itself(self):
        for point in [0, 1]:
            net = net_of(2, [("piece", 0, 1, 2), ("hold", point, point, 3)])
            self.assertEqual(equations(net), ([[(1, 2), (0, 1)], [(0, 1), (0, 1)]], [(0, 1), (3, 1)]))

    def test_nets_of_one_point(self):
        self.assertEqual(equations(Net(1)), ([], []))
        self.assertEqual(equations(net_of(1, [("piece", 0, 0, 1), ("push", 0, 0, 5)])), ([], []))
        self.assertEqual(equations(net_of(1, [("hold", 0, 0, 2), ("hold", 0, 0, 0)])),
                         (wholes([[0, 0], [0, 0]]), [(2, 1), (0, 1)]))

    def test_points_without_rows(self):
        self.assertEqual(equations(Net(3)), (wholes([[0, 0], [0, 0]]), [(0, 1), (0, 1)]))

    def test_many_nets(self):
        nets = Nets(3)
        for net in nets.many_answered() + [nets.any_net(many, 9) for many in [1, 2, 4, 8, 20] for turn in range(5)]:
            before = net.told()
            made = equations(net)
            self.assertIs(type(made), tuple)
            self.assertEqual(made, plain_equations(net))
            self.assertEqual(equations(net=net), made)
            self.assertEqual(net.told(), before)

    def test_the_askers_own(self):
        net = net_of(3, BRIDGE)
        matrix, right = equations(net)
        kept = copy.deepcopy((matrix, right))
        matrix[0][0] = "other"
        matrix[1].clear()
        matrix.pop()
        right.append("more")
        self.assertEqual(equations(net), kept)
        again = equations(net)
        net.change(1, (9, 1))
        net.add(Piece(0, 1, (1, 1)))
        self.assertEqual(again, kept)
        self.assertNotEqual(equations(net), kept)


class Answered(unittest.TestCase):
    def check(self, net, answer):
        heights, streams = answer.heights(), answer.streams()
        self.assertEqual((len(heights), len(streams)), (net.many(), net.count()))
        self.assertTrue(all(is_fraction(one) for one in heights + streams))
        self.assertEqual(heights[0], (0, 1))
        rests = [Fraction(0)] * net.many()
        for (word, start, goal, size), stream in zip(net.told(), streams):
            fall = Fraction(*heights[start]) - Fraction(*heights[goal])
            stream, size = Fraction(*stream), Fraction(*size)
            rests[start] += stream
            rests[goal] -= stream
            if word == "piece":
                self.assertEqual(stream, fall / size)
            elif word == "push":
                self.assertEqual(stream, size)
            else:
                self.assertEqual(fall, size)
        self.assertEqual(rests, [0] * net.many())

    def check_falls(self, net, answer):
        heights = answer.heights()
        for a in range(net.many()):
            for b in range(net.many()):
                self.assertEqual(answer.fall(a, b), told(Fraction(*heights[a]) - Fraction(*heights[b])))

    def check_paper(self, net, answer):
        matrix, right = equations(net)
        paper = answer.paper()
        self.assertEqual([summed(row, matrix) for row in paper], unit(len(matrix)))
        self.assertEqual(paper, multiples(matrix))
        unknowns = answer.heights()[1:]
        unknowns += [one for row, one in zip(net.told(), answer.streams()) if row[0] == "hold"]
        self.assertEqual([summed(row, [[one] for one in right]) for row in paper], [[one] for one in unknowns])

    def test_one_written_out(self):
        net = net_of(3, BRIDGE)
        answer = Answer(net)
        self.assertEqual(answer.heights(), [(0, 1), (12, 1), (12, 1)])
        self.assertEqual(answer.streams(), [(-2, 1), (0, 1), (3, 1), (3, 1), (2, 1), (0, 1), (7, 1)])
        self.assertEqual(answer.fall(1, 0), (12, 1))
        self.assertEqual(answer.fall(0, 2), (-12, 1))
        self.assertEqual(answer.fall(2, 2), (0, 1))
        self.check(net, answer)

    def test_another_written_out(self):
        net = net_of(3, [("piece", 0, 1, 2), ("piece", 1, 2, (1, 3)), ("push", 2, 0, 6)])
        answer = Answer(net)
        self.assertEqual(answer.heights(), [(0, 1), (-12, 1), (-14, 1)])
        self.assertEqual(answer.streams(), [(6, 1), (6, 1), (6, 1)])
        self.assertEqual(answer.paper(), [[(2, 1), (2, 1)], [(2, 1), (7, 3)]])

    def test_several_holds(self):
        net = net_of(4, [("hold", 2, 0, 5), ("piece", 3, 1, 2), ("hold", 3, 2, (1, 2)), ("piece", 1, 0, 1), ("hold", 2, 1, 3)])
        answer = Answer(net)
        self.assertEqual(answer.heights(), [(0, 1), (2, 1), (5, 1), (11, 2)])
        self.assertEqual(answer.streams(), [(-2, 1), (7, 4), (-7, 4), (2, 1), (1, 4)])
        self.check(net, answer)
        self.check_paper(net, answer)

    def test_nets_of_one_point(self):
        answer = Answer(Net(1))
        self.assertEqual((answer.heights(), answer.streams(), answer.paper()), ([(0, 1)], [], []))
        self.assertEqual(answer.fall(0, 0), (0, 1))
        answer = Answer(net_of(1, [("push", 0, 0, (5, 2)), ("piece", 0, 0, 3)]))
        self.assertEqual((answer.heights(), answer.streams()), ([(0, 1)], [(5, 2), (0, 1)]))

    def test_holds_alone(self):
        net = net_of(3, [("hold", 1, 0, 4), ("hold", 1, 2, 1), ("push", 0, 2, 6)])
        answer = Answer(net)
        self.assertEqual(answer.heights(), [(0, 1), (4, 1), (3, 1)])
        self.assertEqual(answer.streams(), [(6, 1), (-6, 1), (6, 1)])

    def test_many_nets(self):
        for net in Nets(4).many_answered():
            before = net.told()
            answer = Answer(net)
            self.check(net, answer)
            self.check_falls(net, answer)
            self.check_paper(net, answer)
            self.assertEqual(net.told(), before)
            again = Answer(net=net)
            self.assertEqual((again.heights(), again.streams()), (answer.heights(), answer.streams()))

    def test_a_full_net(self):
        net = Nets(5).answered(20, 21)
        self.assertEqual(net.count(), 40)
        self.check(net, Answer(net))


class Falls(unittest.TestCase):
    def test_no_point(self):
        answer = Answer(net_of(3, BRIDGE))
        for thing in [3, 4, 20] + NO_POINTS:
            for a, b in [(thing, 0), (0, thing), (thing, thing)]:
                with self.assertRaises(NoPoint):
                    answer.fall(a, b)
        self.assertEqual(answer.fall(a=2, b=0), (12, 1))
        self.assertEqual(answer.fall(b=2, a=0), (-12, 1))
        with self.assertRaises(NoPoint):
            Answer(Net(1)).fall(0, 1)


class Refused(unittest.TestCase):
    def check_ring(self, net, ring, total):
        before = net.told()
        for asked in range(2):
            with self.assertRaises(Ring) as caught:
                Answer(net)
            self.assertEqual((caught.exception.ring, caught.exception.total), (ring, total))
            caught.exception.ring.clear()
        self.assertEqual(net.told(), before)

    def check_floats(self, net, points):
        before = net.told()
        for asked in range(2):
            with self.assertRaises(Floats) as caught:
                Answer(net)
            self.assertEqual(caught.exception.points, points)
            caught.exception.points.clear()
        self.assertEqual(net.told(), before)

    def test_ring(self):
        self.check_ring(net_of(2, [("hold", 0, 1, 5), ("hold", 0, 1, 3)]), [(1, 1), (0, -1)], (-2, 1))
        self.check_ring(net_of(2, [("hold", 0, 1, 5), ("hold", 1, 0, 3)]), [(1, 1), (0, 1)], (8, 1))
        self.check_ring(net_of(1, [("hold", 0, 0, (1, 2))]), [(0, 1)], (1, 2))

    def test_a_sum_of_nought(self):
        self.check_ring(net_of(2, [("hold", 0, 1, 5), ("hold", 0, 1, 5)]), [(1, 1), (0, -1)], (0, 1))
        self.check_ring(net_of(2, [("piece", 0, 1, 5), ("hold", 1, 1, 0)]), [(1, 1)], (0, 1))

    def test_the_first_ring_of_holds(self):
        net = net_of(3, [
            ("piece", 0, 1, 1), ("piece", 0, 1, 1), ("hold", 0, 1, 1), ("hold", 2, 1, 2), ("piece", 2, 0, 1),
            ("push", 0, 2, 1), ("hold", 2, 0, 4), ("hold", 0, 0, 7), ("hold", 0, 1, 9),
        ])
        self.check_ring(net, [(6, 1), (2, 1), (3, -1)], (3, 1))

    def test_ring_ahead_of_floats(self):
        self.check_ring(net_of(3, [("hold", 0, 0, 2)]), [(0, 1)], (2, 1))
        self.check_ring(net_of(4, [("hold", 2, 3, 2), ("hold", 3, 2, -2)]), [(1, 1), (0, 1)], (0, 1))

    def test_floats(self):
        self.check_floats(Net(2), [1])
        self.check_floats(Net(20), list(range(1, 20)))
        self.check_floats(net_of(3, [("piece", 0, 2, 1), ("push", 0, 1, 1)]), [1])
        self.check_floats(net_of(3, [("piece", 0, 2, 1), ("push", 0, 1, 0)]), [1])
        self.check_floats(net_of(5, [("piece", 1, 4, 1), ("hold", 3, 4, 1), ("piece", 2, 0, 1)]), [1, 3, 4])
        self.check_floats(net_of(2, [("piece", 1, 1, 1), ("piece", 0, 0, 1)]), [1])

    def test_good_later(self):
        net = net_of(2, [("push", 0, 1, 3)])
        self.check_floats(net, [1])
        net.add(Piece(1, 0, (2, 1)))
        self.assertEqual(Answer(net).heights(), [(0, 1), (6, 1)])
        net.add(Hold(1, 0, (2, 1)))
        self.assertEqual(Answer(net).heights(), [(0, 1), (2, 1)])
        net.add(Hold(1, 0, (2, 1)))
        self.check_ring(net, [(3, 1), (2, -1)], (0, 1))

    def test_answered_or_refused(self):
        nets = Nets(6)
        seen = {"ring": 0, "floats": 0, "answered": 0}
        for turn in range(150):
            net = nets.any_net(1 + turn % 5, turn % 9)
            held = rings(net, ["hold"])
            if held:
                self.check_ring(net, held[0], ring_sum(net, held[0]))
                seen["ring"] += 1
            elif floating(net):
                self.check_floats(net, floating(net))
                seen["floats"] += 1
            else:
                Answered().check(net, Answer(net))
                seen["answered"] += 1
        self.assertGreater(min(seen.values()), 20)


class TheAskersOwn(unittest.TestCase):
    def test_what_is_done_to_the_net_later(self):
        net = net_of(3, BRIDGE)
        answer = Answer(net)
        kept = (answer.heights(), answer.streams(), answer.paper(), answer.fall(1, 0))
        net.change(0, (99, 1))
        net.change(1, (99, 1))
        net.add(Piece(0, 1, (1, 5)))
        net.add(Hold(0, 0, (1, 5)))
        self.assertEqual((answer.heights(), answer.streams(), answer.paper(), answer.fall(1, 0)), kept)
        with self.assertRaises(Ring):
            Answer(net)

    def test_paper_asked_first_behind_a_change(self):
        net = net_of(3, BRIDGE)
        answer = Answer(net)
        expected = multiples(equations(net)[0])
        net.change(1, (99, 1))
        net.add(Piece(0, 1, (1, 5)))
        self.assertEqual(answer.paper(), expected)

    def test_lists(self):
        answer = Answer(net_of(3, BRIDGE))
        kept = (answer.heights(), answer.streams(), answer.paper())
        for question in [answer.heights, answer.streams, answer.paper]:
            first = question()
            self.assertIs(type(first), list)
            self.assertIsNot(question(), first)
            if isinstance(first[0], list):
                first[0][0] = "other"
                first[1].clear()
            first[0] = "other"
            first.append("more")
        self.assertEqual((answer.heights(), answer.streams(), answer.paper()), kept)
        self.assertEqual(answer.fall(1, 0), (12, 1))

    def test_answers_go_their_own_ways(self):
        net = net_of(2, [("hold", 1, 0, 3)])
        first = Answer(net)
        net.change(0, (4, 1))
        second = Answer(net)
        self.assertEqual((first.heights()[1], second.heights()[1]), ((3, 1), (4, 1)))


if __name__ == "__main__":
    unittest.main()
