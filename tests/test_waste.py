"""Waste and other streams: [19] to [23], and of [2], [3], [4] what speaks of them."""

import copy
import unittest
from fractions import Fraction

from ohmyard.errors import Floats, NoStreams, Ring
from ohmyard.hanging import rings
from ohmyard.heights import Answer
from ohmyard.nets import Net
from ohmyard.ratios import is_fraction
from ohmyard.rows import Hold, Piece
from ohmyard.waste import amounts, gap, keeps, led, price, serves, strain, supplied, waste
from samples import BRIDGE, Nets, net_of, told

NO_FRACTIONS = [
    (2, 4), (0, 2), (2, 2), (1, 0), (1, -1), [1, 2], [0, 1], 0, 1, 1.0, True, None, "0", "1/2", (), (1,), (0, 1, 1),
    (True, 1), (False, 1), (0, True), (0.0, 1), (None, 1), Fraction(0), object(),
]
NO_LISTS = [None, 0, 1, True, False, "", "0", 1.5, {}, {0: (0, 1)}, {(0, 1)}, (), ((0, 1),), object(), list]


def wholes(some):
    return [(one, 1) for one in some]


def added(some, amount):
    return [told(Fraction(*one) + amount) for one in some]


def differences(some, others):
    return [told(Fraction(*one) - Fraction(*other)) for one, other in zip(some, others)]


def joined(one, other):
    return told(Fraction(*one) + Fraction(*other))


def plain_sums(net, streams, heights):
    """waste, price, strain, gap, and what the sources give."""
    wasted = held = resisted = pushed = between = Fraction(0)
    for (word, start, goal, size), stream in zip(net.told(), streams):
        size, stream = Fraction(*size), Fraction(*stream)
        fall = Fraction(*heights[start]) - Fraction(*heights[goal])
        if word == "piece":
            wasted += size * stream * stream
            resisted += fall * fall / size
            between += size * (stream - fall / size) ** 2
        elif word == "push":
            pushed += size * -fall
        else:
            held += size * stream
    return [told(one) for one in [wasted, wasted + 2 * held, resisted - 2 * pushed, between, pushed - held]]


def cases(seed):
    nets = Nets(seed)
    for net in nets.many_answered():
        answer = Answer(net)
        yield nets, net, answer


class Serves(unittest.TestCase):
    def test_one_written_out(self):
        net = net_of(3, BRIDGE)
        for streams in [[-2, 0, 3, 3, 2, 0, 7], [0, 0, 3, 3, 0, 0, 7], [-3, 1, 4, 3, 2, 0, 7], [-2, 0, 3, 3, 2, 55, 7]]:
            self.assertIs(serves(net, wholes(streams)), True)
        for streams in [[-2, 0, 3, 3, 2, 0, 8], [-2, 0, 4, 4, 2, 0, 7], [-2, 1, 4, 3, 2, 0, 7], [0, 0, 0, 0, 0, 0, 0]]:
            self.assertIs(serves(net, wholes(streams)), False)

    def test_the_base_too(self):
        net = net_of(2, [("piece", 0, 1, 1), ("piece", 0, 0, 1)])
        self.assertIs(serves(net, wholes([0, 5])), True)
        self.assertIs(serves(net, wholes([1, 5])), False)

    def test_no_rows(self):
        for many in [1, 4]:
            self.assertIs(serves(Net(many), []), True)
            self.assertIs(serves(Net(many), [(0, 1)]), False)

    def test_nets_that_are_not_answered(self):
        self.assertIs(serves(net_of(2, [("push", 0, 1, 3)]), [(3, 1)]), False)
        self.assertIs(serves(net_of(2, [("push", 0, 1, 3), ("push", 1, 0, 3)]), [(3, 1), (3, 1)]), True)
        self.assertIs(serves(net_of(1, [("hold", 0, 0, 3)]), [(8, 1)]), True)

    def test_one_number_changed(self):
        for nets, net, answer in cases(11):
            streams = answer.streams()
            self.assertIs(serves(net, streams), True)
            self.assertIs(serves(net, nets.serving(net, streams, rings(net))), True)
            for number, (word, start, goal, size) in enumerate(net.told()):
                other = list(streams)
                other[number] = told(Fraction(*other[number]) + Fraction(1, 3))
                self.assertIs(serves(net, other), start == goal and word != "push")

    def test_what_is_no_list_of_fractions_one_for_each_row(self):
        net = net_of(3, BRIDGE)
        streams = Answer(net).streams()
        for thing in NO_LISTS + [tuple(streams), streams + [(0, 1)], streams[:-1], [], [streams], {0: streams}]:
            self.assertIs(serves(net, thing), False)
        for number in range(len(streams)):
            for thing in NO_FRACTIONS:
                self.assertIs(serves(net, streams[:number] + [thing] + streams[number + 1:]), False)
        for thing in NO_LISTS:
            self.assertIs(serves(Net(1), thing), False)

    def test_fractions_not_in_lowest_terms(self):
        net = net_of(2, [("push", 0, 1, (1, 2)), ("piece", 1, 0, 1)])
        self.assertIs(serves(net, [(1, 2), (1, 2)]), True)
        self.assertIs(serves(net, [(1, 2), (2, 4)]), False)
        self.assertIs(serves(net, [(2, 4), (1, 2)]), False)


class Keeps(unittest.TestCase):
    def test_one_written_out(self):
        net = net_of(3, BRIDGE)
        for heights in [[0, 12, 12], [0, 12, -5], [3, 15, 0], [-12, 0, 0]]:
            self.assertIs(keeps(net, wholes(heights)), True)
        for heights in [[0, 11, 12], [12, 0, 12], [0, -12, 12], [0, 0, 0]]:
            self.assertIs(keeps(net, wholes(heights)), False)

    def test_without_holds(self):
        self.assertIs(keeps(Net(2), wholes([4, 9])), True)
        self.assertIs(keeps(net_of(2, [("piece", 0, 1, 1), ("push", 0, 1, 1)]), wholes([4, 9])), True)

    def test_nets_that_are_not_answered(self):
        self.assertIs(keeps(net_of(1, [("hold", 0, 0, 3)]), [(0, 1)]), False)
        self.assertIs(keeps(net_of(1, [("hold", 0, 0, 0)]), [(5, 1)]), True)
        self.assertIs(keeps(net_of(4, [("hold", 2, 3, (1, 2))]), [(0, 1), (0, 1), (1, 2), (0, 1)]), True)

    def test_one_number_changed_or_added_to_all(self):
        for nets, net, answer in cases(12):
            heights = answer.heights()
            self.assertIs(keeps(net, heights), True)
            self.assertIs(keeps(net, added(heights, Fraction(7, 3))), True)
            for point in range(net.many()):
                held = any(row[0] == "hold" and point in row[1:3] for row in net.told())
                other = list(heights)
                other[point] = told(Fraction(*other[point]) - Fraction(1, 5))
                self.assertIs(keeps(net, other), not held)

    def test_what_is_no_list_of_fractions_one_for_each_point(self):
        net = net_of(3, BRIDGE)
        heights = Answer(net).heights()
        for thing in NO_LISTS + [tuple(heights), heights + [(0, 1)], heights[:-1], [], [heights], {0: heights}]:
            self.assertIs(keeps(net, thing), False)
            self.assertIs(keeps(Net(1), thing), False)
        for point in range(3):
            for thing in NO_FRACTIONS:
                self.assertIs(keeps(net, heights[:point] + [thing] + heights[point + 1:]), False)
                self.assertIs(keeps(Net(3), heights[:point] + [thing] + heights[point + 1:]), False)

    def test_fractions_not_in_lowest_terms(self):
        net = net_of(2, [("hold", 0, 1, (1, 2))])
        self.assertIs(keeps(net, [(1, 2), (0, 1)]), True)
        self.assertIs(keeps(net, [(2, 4), (0, 1)]), False)
        self.assertIs(keeps(net, [(1, 2), (0, 3)]), False)


class Sums(unittest.TestCase):
    def test_written_out(self):
        net = net_of(3, BRIDGE)
        streams = wholes([1, 2, 3, 4, 5, 6, 7])
        heights = wholes([1, 2, 4])
        self.assertEqual(waste(net, streams), (2 * 4 + 4 * 9 + 6 * 25 + 5 * 36, 1))
        self.assertEqual(price(net, streams), (374 + 2 * 12, 1))
        # Falls: -2 by 2, 3 by 4, 1 by 6, 0; the push into point 2 lifts 3 by 3.
        self.assertEqual(strain(net, heights), told(Fraction(4, 2) + Fraction(9, 4) + Fraction(1, 6) - 2 * 9))
        self.assertEqual(gap(net, streams, heights),
                         told(2 * 3 ** 2 + 4 * Fraction(9, 4) ** 2 + 6 * Fraction(29, 6) ** 2 + 5 * 36))

    def test_of_nothing(self):
        net = Net(2)
        self.assertEqual([waste(net, []), price(net, []), strain(net, wholes([1, 5])), gap(net, [], wholes([1, 5]))],
                         [(0, 1)] * 4)

    def test_each_kind_of_row_by_itself(self):
        net = net_of(2, [("piece", 0, 1, (1, 2))])
        self.assertEqual([waste(net, [(3, 1)]), price(net, [(3, 1)]), strain(net, wholes([5, 1])),
                          gap(net, [(3, 1)], wholes([5, 1]))], [(9, 2), (9, 2), (32, 1), (25, 2)])
        net = net_of(2, [("push", 0, 1, (1, 2))])
        self.assertEqual([waste(net, [(3, 1)]), price(net, [(3, 1)]), strain(net, wholes([5, 1])),
                          gap(net, [(3, 1)], wholes([5, 1]))], [(0, 1), (0, 1), (4, 1), (0, 1)])
        net = net_of(2, [("hold", 0, 1, (1, 2))])
        self.assertEqual([waste(net, [(3, 1)]), price(net, [(3, 1)]), strain(net, wholes([5, 1])),
                          gap(net, [(3, 1)], wholes([5, 1]))], [(0, 1), (3, 1), (0, 1), (0, 1)])

    def test_of_any_lists(self):
        nets = Nets(13)
        for turn in range(60):
            net = nets.any_net(1 + turn % 5, turn % 9)
            streams = [nets.number() for row in range(net.count())]
            heights = [nets.number() for point in range(net.many())]
            kept = copy.deepcopy((net.told(), streams, heights))
            made = [waste(net, streams), price(net, streams), strain(net, heights), gap(net, streams, heights)]
            self.assertEqual(made, plain_sums(net, streams, heights)[:4])
            self.assertTrue(all(is_fraction(one) for one in made))
            again = [waste(net=net, streams=streams), price(net=net, streams=streams),
                     strain(net=net, heights=heights), gap(net=net, streams=streams, heights=heights)]
            self.assertEqual(again, made)
            self.assertEqual((net.told(), streams, heights), kept)


class PriceStrainAndGap(unittest.TestCase):
    def other_heights(self, nets, net):
        """Heights that keep the holds: any one for the first point of each group of holds."""
        holds = net_of(net.many(), [row for row in net.told() if row[0] == "hold"])
        heights = {}
        for point in range(net.many()):
            if point not in heights:
                heights[point] = Fraction(*nets.number())
            for turn in range(net.many()):
                for word, start, goal, size in holds.told():
                    if start in heights:
                        heights[goal] = heights[start] - Fraction(*size)
                    elif goal in heights:
                        heights[start] = heights[goal] + Fraction(*size)
        return [told(heights[point]) for point in range(net.many())]

    def test_come_to_the_gap(self):
        for nets, net, answer in cases(14):
            streams = nets.serving(net, answer.streams(), rings(net))
            heights = self.other_heights(nets, net)
            self.assertIs(serves(net, streams), True)
            self.assertIs(keeps(net, heights), True)
            for some in [streams, answer.streams()]:
                for levels in [heights, answer.heights(), added(answer.heights(), Fraction(-2, 3))]:
                    self.assertEqual(joined(price(net, some), strain(net, levels)), gap(net, some, levels))

    def test_in_nets_that_are_not_answered(self):
        net = net_of(4, [("hold", 0, 1, 2), ("hold", 0, 1, 2), ("piece", 2, 3, 5), ("push", 2, 3, 1), ("push", 3, 2, 4)])
        streams, heights = wholes([9, -9, 3, 1, 4]), [(0, 1), (-2, 1), (1, 3), (5, 1)]
        self.assertIs(serves(net, streams), True)
        self.assertIs(keeps(net, heights), True)
        self.assertEqual(joined(price(net, streams), strain(net, heights)), gap(net, streams, heights))

    def test_nought_just_for_the_answer(self):
        for nets, net, answer in cases(15):
            streams, heights = answer.streams(), answer.heights()
            self.assertEqual(gap(net, streams, heights), (0, 1))
            self.assertEqual(gap(net, streams, added(heights, Fraction(9, 4))), (0, 1))
            other = nets.serving(net, streams, rings(net))
            levels = self.other_heights(nets, net)
            self.assertEqual(gap(net, other, heights) == (0, 1), other == streams)
            same = len(set(differences(levels, heights))) == 1
            self.assertEqual(gap(net, streams, levels) == (0, 1), same)

    def test_the_least_price(self):
        for nets, net, answer in cases(16):
            own = answer.streams()
            other = nets.serving(net, own, rings(net))
            self.assertEqual(price(net, other), joined(price(net, own), waste(net, differences(other, own))))


class Led(unittest.TestCase):
    def test_round_a_ring_and_back(self):
        streams = [(1, 2), (0, 1), (-3, 1), (5, 1)]
        ring = [(3, 1), (0, -1), (2, 1)]
        there = led(streams, ring, (1, 2))
        self.assertEqual(there, [(0, 1), (0, 1), (-5, 2), (11, 2)])
        self.assertEqual(led(there, ring, (-1, 2)), streams)
        self.assertEqual(led(amount=(1, 2), ring=ring, streams=streams), there)
        self.assertEqual((streams, ring), ([(1, 2), (0, 1), (-3, 1), (5, 1)], [(3, 1), (0, -1), (2, 1)]))

    def test_no_rows_and_nought(self):
        streams = [(1, 2), (0, 1)]
        for made in [led(streams, [], (5, 1)), led(streams, [(0, 1), (1, -1)], (0, 1))]:
            self.assertEqual(made, [(1, 2), (0, 1)])
            self.assertIsNot(made, streams)
            made.append("more")
        self.assertEqual(streams, [(1, 2), (0, 1)])
        self.assertEqual(led([], [], (1, 1)), [])

    def test_what_serves_goes_on_serving(self):
        for nets, net, answer in cases(17):
            for ring in rings(net):
                self.assertIs(serves(net, led(answer.streams(), ring, (2, 7))), True)


class Amounts(unittest.TestCase):
    def test_of_the_answers_own(self):
        for nets, net, answer in cases(18):
            self.assertEqual(amounts(net, answer.streams()), [(0, 1)] * len(rings(net)))

    def test_leading_round_the_rings(self):
        for nets, net, answer in cases(19):
            wanted = [nets.number() for ring in rings(net)]
            streams = answer.streams()
            for ring, amount in zip(rings(net), wanted):
                streams = led(streams, ring, amount)
            kept = list(streams)
            found = amounts(net, streams)
            self.assertEqual(found, wanted)
            self.assertIs(type(found), list)
            found.append("more")
            self.assertEqual(amounts(streams=streams, net=net), wanted)
            self.assertEqual(streams, kept)

    def test_written_out(self):
        net = net_of(2, [("piece", 0, 1, 1), ("hold", 1, 0, 2), ("piece", 1, 1, 3), ("push", 0, 1, 1)])
        self.assertEqual(Answer(net).streams(), wholes([-2, -1, 0, 1]))
        self.assertEqual(amounts(net, wholes([3, 4, 9, 1])), wholes([5, 9]))
        self.assertEqual(amounts(Net(1), []), [])

    def test_no_streams(self):
        net = net_of(3, BRIDGE)
        streams = Answer(net).streams()
        bad = [wholes([0] * 7), streams[:-1], streams + [(0, 1)], tuple(streams), [(0, 2)] + streams[1:]]
        for thing in bad + NO_LISTS:
            with self.assertRaises(NoStreams):
                amounts(net, thing)
        self.assertEqual(amounts(net, streams), [(0, 1)] * 3)

    def test_then_ring_then_floats(self):
        ring = net_of(3, [("hold", 0, 1, 5), ("hold", 0, 1, 3)])
        floats = net_of(3, [("piece", 0, 1, 5), ("piece", 0, 1, 3)])
        for net in [ring, floats]:
            for streams in [[(1, 1), (1, 1)], [(0, 1)], None]:
                with self.assertRaises(NoStreams):
                    amounts(net, streams)
        with self.assertRaises(Ring) as caught:
            amounts(ring, [(1, 1), (-1, 1)])
        self.assertEqual((caught.exception.ring, caught.exception.total), ([(1, 1), (0, -1)], (-2, 1)))
        with self.assertRaises(Floats) as caught:
            amounts(floats, [(1, 1), (-1, 1)])
        self.assertEqual(caught.exception.points, [2])
        floats.add(Piece(2, 0, (1, 1)))
        self.assertEqual(amounts(floats, [(1, 1), (-1, 1), (0, 1)]), [(-1, 1)])


class Supplied(unittest.TestCase):
    def test_comes_to_the_waste(self):
        for nets, net, answer in cases(20):
            before = net.told()
            made = supplied(net)
            self.assertTrue(is_fraction(made))
            self.assertEqual(made, waste(net, answer.streams()))
            self.assertEqual(made, plain_sums(net, answer.streams(), answer.heights())[4])
            self.assertEqual(supplied(net=net), made)
            self.assertEqual(net.told(), before)

    def test_written_out(self):
        self.assertEqual(supplied(net_of(2, [("hold", 1, 0, 6), ("piece", 1, 0, 2)])), (18, 1))
        self.assertEqual(supplied(net_of(2, [("push", 0, 1, 3), ("piece", 1, 0, 2)])), (18, 1))
        self.assertEqual(supplied(Net(1)), (0, 1))
        self.assertEqual(supplied(net_of(3, BRIDGE)), (60, 1))

    def test_refused(self):
        net = net_of(3, [("hold", 0, 1, 5), ("hold", 1, 0, 3)])
        with self.assertRaises(Ring) as caught:
            supplied(net)
        self.assertEqual((caught.exception.ring, caught.exception.total), ([(1, 1), (0, 1)], (8, 1)))
        net = net_of(3, [("hold", 0, 1, 5), ("push", 0, 2, 3)])
        with self.assertRaises(Floats) as caught:
            supplied(net)
        self.assertEqual(caught.exception.points, [2])
        net.add(Hold(0, 2, (1, 1)))
        # What the push gives, -3, the hold takes: there is no piece to waste it.
        self.assertEqual(supplied(net), (0, 1))


if __name__ == "__main__":
    unittest.main()
