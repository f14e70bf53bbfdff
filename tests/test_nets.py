"""Nets: [10], and of [2] and [3] what speaks of them."""

import unittest
from fractions import Fraction

from ohmyard.errors import NoPoint, NoRow, NoSize, OhmError, TooMany
from ohmyard.nets import Net
from ohmyard.rows import Hold, Piece, Push

CLASSES = [("piece", Piece), ("push", Push), ("hold", Hold)]
HUGE = 10 ** 5000
NO_NUMBERS = [
    -1, -2, -20, HUGE, -HUGE, True, False, None, "", "0", "1", b"1", 0.0, 1.0, float("nan"), Fraction(1), (), (0,), (0, 1),
    [], [0], {}, {0: 1}, {0}, object(), int, len,
]
NO_SIZES = [
    (2, 4), (0, 2), (2, 2), (1, 0), (0, 0), (1, -1), (-1, -2), (6, 3), (HUGE, 10), (), (1,), (1, 2, 3), [1, 2], [1, 1],
    [], 0, 1, 5, -1, HUGE, 0.5, 1.0, True, False, None, "", "1", "1/2", (True, 1), (1, True), (False, 1), ("1", 2),
    (1, None), (1.0, 1), ((1, 2), 1), ((1, 1), (1, 1)), Fraction(1, 2), {}, {1: 2}, {1, 2}, object(), tuple,
]
NO_PIECE_SIZES = [(0, 1), (-1, 1), (-1, 2), (-HUGE, 1), (-1, HUGE)]


def full_net():
    net = Net(3)
    for number in range(40):
        net.add(CLASSES[number % 3][1](number % 2, 2, (number + 1, 1)))
    return net


def small_net():
    net = Net(3)
    net.add(Piece(0, 1, (1, 2)))
    net.add(Push(1, 2, (-3, 1)))
    net.add(Hold(2, 2, (0, 1)))
    return net


SMALL = [("piece", 0, 1, (1, 2)), ("push", 1, 2, (-3, 1)), ("hold", 2, 2, (0, 1))]


class TheCountOfPoints(unittest.TestCase):
    def test_let_in(self):
        for many in range(1, 21):
            net = Net(many)
            self.assertEqual(net.many(), many)
            self.assertEqual(net.count(), 0)
            self.assertEqual(net.rows(), [])
            self.assertEqual(net.told(), [])

    def test_by_the_name_of_the_argument(self):
        self.assertEqual(Net(many=4).many(), 4)

    def test_refused(self):
        for many in [0, 21, 22, 100] + NO_NUMBERS:
            with self.assertRaises(NoPoint):
                Net(many)
            self.assertEqual(Net(1).many(), 1)


class Adding(unittest.TestCase):
    def test_the_number_of_the_new_row(self):
        net = Net(3)
        for number in range(40):
            self.assertEqual(net.add(CLASSES[number % 3][1](0, 2, (1, 3))), number)
            self.assertEqual(net.count(), number + 1)
            self.assertEqual(net.told()[number], (CLASSES[number % 3][0], 0, 2, (1, 3)))

    def test_rows_stand_in_their_order(self):
        net = small_net()
        self.assertEqual(net.told(), SMALL)
        self.assertEqual([type(row) for row in net.rows()], [Piece, Push, Hold])
        self.assertEqual([row.told() for row in net.rows()], SMALL)

    def test_every_point_is_one(self):
        for many in [1, 2, 20]:
            for word, made in CLASSES:
                net = Net(many)
                for start, goal in [(0, 0), (0, many - 1), (many - 1, 0), (many - 1, many - 1)]:
                    net.add(made(start, goal, (1, 1)))
                    self.assertEqual(net.told()[-1], (word, start, goal, (1, 1)))

    def test_sizes_of_pushes_and_holds(self):
        for size in [(0, 1), (-1, 1), (-7, 3), (5, 1), (10 ** 300, 7)]:
            net = Net(2)
            net.add(Push(0, 1, size))
            net.add(Hold(0, 1, size))
            self.assertEqual(net.told(), [("push", 0, 1, size), ("hold", 0, 1, size)])

    def test_by_the_name_of_the_argument(self):
        self.assertEqual(Net(2).add(row=Piece(0, 1, (1, 1))), 0)


class RefusedRows(unittest.TestCase):
    def check(self, net, row, refusal):
        many, told = net.many(), net.told()
        with self.assertRaises(refusal):
            net.add(row)
        self.assertEqual((net.many(), net.count(), net.told()), (many, len(told), told))

    def test_no_point(self):
        for word, made in CLASSES:
            for many in [1, 3, 20]:
                for thing in [many, many + 1] + NO_NUMBERS:
                    self.check(Net(many), made(thing, 0, (1, 1)), NoPoint)
                    self.check(Net(many), made(0, thing, (1, 1)), NoPoint)
                    self.check(Net(many), made(thing, thing, (1, 1)), NoPoint)

    def test_no_size(self):
        for word, made in CLASSES:
            for size in NO_SIZES:
                self.check(small_net(), made(0, 1, size), NoSize)

    def test_a_piece_of_nought_or_less(self):
        for size in NO_PIECE_SIZES:
            self.check(small_net(), Piece(0, 1, size), NoSize)
            self.check(small_net(), Piece(1, 1, size), NoSize)

    def test_the_forty_first(self):
        for word, made in CLASSES:
            self.check(full_net(), made(0, 1, (1, 1)), TooMany)
            self.check(full_net(), made(1, 1, (1, 1)), TooMany)

    def test_the_first_one_due(self):
        for word, made in CLASSES:
            for net in [small_net(), full_net()]:
                self.check(net, made(3, 0, (2, 4)), NoPoint)
                self.check(net, made(0, None, None), NoPoint)
                self.check(net, made(True, 0, (1, 1)), NoPoint)
                self.check(net, made(0, 1, (2, 4)), NoSize)
                self.check(net, made(0, 1, 1), NoSize)
        self.check(full_net(), Piece(0, 1, (0, 1)), NoSize)
        self.check(full_net(), Piece(0, 3, (0, 1)), NoPoint)

    def test_good_later(self):
        net = small_net()
        self.check(net, Piece(0, 3, (1, 1)), NoPoint)
        self.check(net, Piece(0, 1, (0, 1)), NoSize)
        self.assertEqual(net.add(Piece(0, 1, (1, 1))), 3)
        self.assertEqual(net.told(), SMALL + [("piece", 0, 1, (1, 1))])

    def test_the_row_is_not_changed(self):
        row = Piece(0, 5, [2, 4])
        self.check(small_net(), row, NoPoint)
        self.assertEqual((row.start, row.goal, row.size), (0, 5, [2, 4]))


class Changing(unittest.TestCase):
    def test_the_size_alone(self):
        net = small_net()
        self.assertIsNone(net.change(0, (7, 3)))
        self.assertEqual(net.told(), [("piece", 0, 1, (7, 3))] + SMALL[1:])
        self.assertIsNone(net.change(1, (0, 1)))
        self.assertIsNone(net.change(2, (-5, 1)))
        self.assertEqual(net.told(), [("piece", 0, 1, (7, 3)), ("push", 1, 2, (0, 1)), ("hold", 2, 2, (-5, 1))])
        self.assertEqual([type(row) for row in net.rows()], [Piece, Push, Hold])
        self.assertEqual(net.count(), 3)

    def test_by_the_names_of_the_arguments(self):
        net = small_net()
        self.assertIsNone(net.change(size=(9, 1), k=0))
        self.assertEqual(net.told()[0], ("piece", 0, 1, (9, 1)))

    def test_to_the_size_it_has(self):
        net = small_net()
        for k in range(3):
            net.change(k, SMALL[k][3])
        self.assertEqual(net.told(), SMALL)

    def test_where_forty_rows_stand(self):
        net = full_net()
        for k in range(40):
            self.assertIsNone(net.change(k, (k + 2, 97)))
        self.assertEqual([told[3] for told in net.told()], [(k + 2, 97) for k in range(40)])

    def check(self, net, k, size, refusal):
        told = net.told()
        with self.assertRaises(refusal):
            net.change(k, size)
        self.assertEqual(net.told(), told)

    def test_no_row(self):
        for k in [3, 4, 40] + NO_NUMBERS:
            self.check(small_net(), k, (1, 1), NoRow)
            self.check(small_net(), k, (0, 1), NoRow)
            self.check(small_net(), k, None, NoRow)
        self.check(Net(2), 0, (1, 1), NoRow)
        self.check(full_net(), 40, (1, 1), NoRow)

    def test_no_size(self):
        for k in range(3):
            for size in NO_SIZES:
                self.check(small_net(), k, size, NoSize)
        for size in NO_PIECE_SIZES:
            self.check(small_net(), 0, size, NoSize)

    def test_good_later(self):
        net = small_net()
        self.check(net, 3, (1, 1), NoRow)
        self.check(net, 0, (-1, 1), NoSize)
        net.add(Piece(0, 1, (2, 1)))
        net.change(3, (1, 1))
        self.assertEqual(net.told()[3], ("piece", 0, 1, (1, 1)))


class TheirOwnWays(unittest.TestCase):
    def test_rows_are_the_askers_own(self):
        net = small_net()
        rows = net.rows()
        self.assertIsNot(net.rows(), rows)
        for one, other in zip(rows, net.rows()):
            self.assertIsNot(one, other)
        rows[0].size = (9, 1)
        rows[1].start = 0
        rows.pop()
        rows.append("more")
        self.assertEqual(net.told(), SMALL)
        self.assertEqual([row.told() for row in net.rows()], SMALL)

    def test_what_was_told_stays(self):
        net = small_net()
        rows, told = net.rows(), net.told()
        net.change(0, (9, 1))
        net.add(Piece(0, 2, (1, 1)))
        self.assertEqual([row.told() for row in rows], SMALL)
        self.assertEqual(told, SMALL)

    def test_told_is_the_askers_own(self):
        net = small_net()
        told = net.told()
        self.assertIs(type(told), list)
        told.clear()
        told.append("more")
        self.assertEqual(net.told(), SMALL)
        self.assertEqual(net.count(), 3)

    def test_a_row_handed_in_stays_and_goes_its_own_way(self):
        for word, made in CLASSES:
            row = made(0, 1, (1, 2))
            net, other = Net(2), Net(3)
            net.add(row)
            other.add(row)
            net.add(row)
            net.change(0, (5, 1))
            other.change(0, (6, 1))
            self.assertEqual(row.told(), (word, 0, 1, (1, 2)))
            self.assertEqual(net.told(), [(word, 0, 1, (5, 1)), (word, 0, 1, (1, 2))])
            self.assertEqual(other.told(), [(word, 0, 1, (6, 1))])
            row.size = (7, 1)
            row.goal = 0
            self.assertEqual(net.told(), [(word, 0, 1, (5, 1)), (word, 0, 1, (1, 2))])
            self.assertEqual(other.told(), [(word, 0, 1, (6, 1))])

    def test_rows_of_one_net_added_to_another(self):
        net, other = small_net(), Net(3)
        for row in net.rows():
            other.add(row)
        other.change(0, (9, 1))
        self.assertEqual(net.told(), SMALL)
        self.assertEqual(other.told(), [("piece", 0, 1, (9, 1))] + SMALL[1:])

    def test_a_copy_goes_its_own_way(self):
        net = small_net()
        copy = net.copy()
        self.assertIs(type(copy), Net)
        self.assertIsNot(copy, net)
        self.assertEqual((copy.many(), copy.count(), copy.told()), (3, 3, SMALL))
        copy.change(0, (9, 1))
        copy.add(Piece(0, 2, (1, 1)))
        self.assertEqual(net.told(), SMALL)
        net.change(2, (4, 1))
        net.add(Push(2, 0, (1, 7)))
        self.assertEqual(copy.told(), [("piece", 0, 1, (9, 1))] + SMALL[1:] + [("piece", 0, 2, (1, 1))])
        self.assertEqual(net.told(), SMALL[:2] + [("hold", 2, 2, (4, 1)), ("push", 2, 0, (1, 7))])

    def test_a_copy_keeps_the_bounds(self):
        with self.assertRaises(TooMany):
            full_net().copy().add(Piece(0, 1, (1, 1)))
        with self.assertRaises(NoPoint):
            small_net().copy().add(Piece(0, 3, (1, 1)))
        with self.assertRaises(OhmError):
            Net(1).copy().add(Piece(0, 1, (1, 1)))

    def test_nets_go_their_own_ways(self):
        net, other = Net(2), Net(2)
        net.add(Piece(0, 1, (1, 1)))
        self.assertEqual(other.told(), [])

    def test_asked_twice_alike(self):
        net = full_net()
        self.assertEqual(net.told(), net.told())
        self.assertEqual([row.told() for row in net.rows()], [row.told() for row in net.rows()])
        self.assertEqual((net.many(), net.count()), (net.many(), net.count()))


if __name__ == "__main__":
    unittest.main()
