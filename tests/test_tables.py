"""Nets made smaller: [25], [26], [27], [28], and of [2], [3], [4] what speaks of tables."""

import copy
import itertools
import unittest
from fractions import Fraction

from ohmyard.errors import Floats, Held, NoPoint, TooMany
from ohmyard.heights import Answer
from ohmyard.nets import Net
from ohmyard.ratios import is_fraction
from ohmyard.rows import Hold, Piece, Push
from ohmyard.shapes import mesh_of, star_of
from ohmyard.tables import Table, inner_heights, table_of
from samples import Nets, levelled, net_of, rests_at, told

NO_POINTS = [
    -1, -2, 10 ** 5000, True, False, None, "", "0", "1", b"0", 0.0, 1.0, Fraction(1), (), (0,), [], [0], {}, {0: 1}, {0},
    object(), int,
]
NO_LISTS = [None, True, 0, 1, "", "0", "01", b"0", 0.0, (), (0,), (0, 1), {}, {0: 1}, {0}, object(), list, range(2)]

# From the base over points 3 and 4 in a row to points 1 and 2, with pushes inside, outside and across.
WEB = [
    ("piece", 0, 3, 1), ("piece", 3, 4, 2), ("piece", 1, 4, 3), ("piece", 4, 2, (1, 2)), ("push", 3, 4, 5),
    ("push", 0, 4, (2, 3)), ("push", 1, 2, 7), ("piece", 1, 2, 4), ("piece", 4, 4, 9), ("push", 3, 3, 8),
    ("piece", 1, 1, (1, 9)), ("push", 2, 2, 1),
]


def wholes(rows):
    return [[(number, 1) for number in row] for row in rows]


def seen(table):
    return (table.ends(), table.matrix(), table.comes())


def spanned(nets, many, more, words=("piece", "push")):
    """A net without holds in which all points hang together."""
    rows = [nets.row("piece", nets.chance.randrange(point), point) for point in range(1, many)]
    rows += [nets.row(nets.chance.choice(words), nets.chance.randrange(many), nets.chance.randrange(many))
             for row in range(more)]
    nets.chance.shuffle(rows)
    return net_of(many, rows)


def tabled(seed):
    """Nets without holds, with lists of ends by which they have tables."""
    nets = Nets(seed)
    found = []
    for many in range(1, 7):
        for turn in range(4):
            net = spanned(nets, many, turn * 2)
            for count in range(1, many + 1):
                found.append((net, nets.chance.sample(range(many), count)))
    found.append((spanned(nets, 20, 21), [19, 0, 7]))
    found.append((spanned(nets, 20, 21), list(range(20))))
    found.append((spanned(nets, 20, 21), [13]))
    # Groups of their own, each with an end.
    found.append((net_of(5, [("piece", 0, 1, 2), ("piece", 2, 3, 3), ("push", 1, 3, 4), ("push", 4, 0, 1)]), [3, 4, 1]))
    found.append((net_of(3, [("push", 0, 2, 4)]), [2, 0, 1]))
    return found


class TheTable(unittest.TestCase):
    def check(self, net, ends, table, drawn):
        self.assertIsInstance(table, Table)
        self.assertEqual(table.ends(), ends)
        count = len(ends)
        # What is brought is told by one list of heights more than there are ends, each of a direction of its own.
        raised = [[Fraction(place == one) for place in range(count)] for one in range(count)]
        for heights in [[Fraction(0)] * count] + raised + drawn:
            rests = rests_at(net, levelled(net, ends, heights))
            brought = table.brought([told(one) for one in heights])
            self.assertEqual(brought, [told(rests[point]) for point in ends])
            rows = zip(table.matrix(), table.comes())
            sums = [sum(Fraction(*number) * one for number, one in zip(row, heights)) - Fraction(*come)
                    for row, come in rows]
            self.assertEqual(brought, [told(one) for one in sums])
        self.assertTrue(all(is_fraction(one) for row in table.matrix() + [table.comes()] for one in row))
        self.assertEqual([len(row) for row in table.matrix()] + [len(table.comes())], [count] * (count + 1))

    def test_pieces_in_a_row(self):
        net = net_of(3, [("piece", 0, 2, 1), ("piece", 2, 1, 3), ("push", 0, 2, 8)])
        self.assertEqual(seen(table_of(net, [0, 1])), ([0, 1], [[(1, 4), (-1, 4)], [(-1, 4), (1, 4)]], [(-2, 1), (2, 1)]))
        self.assertEqual(seen(table_of(net, [1, 0])), ([1, 0], [[(1, 4), (-1, 4)], [(-1, 4), (1, 4)]], [(2, 1), (-2, 1)]))
        self.assertEqual(seen(table_of(net, [1, 2])), ([1, 2], [[(1, 3), (-1, 3)], [(-1, 3), (1, 3)]], [(0, 1), (0, 1)]))

    def test_all_points(self):
        net = net_of(3, [("piece", 0, 1, 2), ("piece", 1, 2, 4), ("push", 2, 0, 5), ("push", 1, 1, 9), ("piece", 2, 2, 1)])
        self.assertEqual(seen(table_of(net, [2, 0, 1])), ([2, 0, 1], [
            [(1, 4), (0, 1), (-1, 4)],
            [(0, 1), (1, 2), (-1, 2)],
            [(-1, 4), (-1, 2), (3, 4)],
        ], [(-5, 1), (5, 1), (0, 1)]))

    def test_one_end(self):
        for point in range(5):
            self.assertEqual(seen(table_of(net_of(5, WEB), [point])), ([point], [[(0, 1)]], [(0, 1)]))
        self.assertEqual(seen(table_of(Net(1), [0])), ([0], [[(0, 1)]], [(0, 1)]))
        self.assertEqual(seen(table_of(net_of(1, [("piece", 0, 0, 2), ("push", 0, 0, 3)]), [0])),
                         ([0], [[(0, 1)]], [(0, 1)]))

    def test_a_star_is_as_a_mesh(self):
        legs = [(1, 1), (2, 1), (3, 1), (1, 4)]
        net = net_of(5, [("piece", point, 4, leg) for point, leg in enumerate(legs)])
        made = table_of(net, [0, 1, 2, 3]).net()
        self.assertEqual(made.told(), [("piece", i, j, size) for i, j, size in mesh_of(legs)])
        sides = [(2, 1), (3, 2), (5, 1)]
        star = star_of(sides)
        mesh = net_of(3, [("piece", 0, 1, sides[0]), ("piece", 1, 2, sides[1]), ("piece", 2, 0, sides[2])])
        legged = net_of(4, [("piece", point, 3, leg) for point, leg in enumerate(star)])
        self.assertEqual(seen(table_of(mesh, [0, 1, 2])), seen(table_of(legged, [0, 1, 2])))

    def test_the_web(self):
        net = net_of(5, WEB)
        drawn = [[Fraction(2), Fraction(-3, 5), Fraction(7)]]
        for ends in itertools.permutations([0, 1, 2]):
            self.check(net, list(ends), table_of(net, list(ends)), drawn)
        for ends in itertools.permutations([1, 4, 2]):
            self.check(net, list(ends), table_of(net, list(ends)), drawn)

    def test_many_nets(self):
        nets = Nets(21)
        for net, ends in tabled(20):
            before = net.told()
            handed = list(ends)
            drawn = [[Fraction(*nets.number()) for end in ends] for turn in range(2)]
            table = table_of(net, ends)
            if net.many() < 20:
                self.check(net, handed, table, drawn)
            self.assertEqual(seen(table_of(net=net, ends=ends)), seen(table))
            self.assertEqual((net.told(), ends), (before, handed))

    def test_a_full_net(self):
        net = spanned(Nets(22), 20, 21)
        self.assertEqual(net.count(), 40)
        ends = [5, 0, 19]
        heights = [Fraction(1), Fraction(-2), Fraction(3, 7)]
        rests = rests_at(net, levelled(net, ends, heights))
        self.assertEqual(table_of(net, ends).brought([told(one) for one in heights]), [told(rests[end]) for end in ends])

    def test_large_numbers(self):
        nets = Nets(23)
        rows = [nets.row("piece", nets.chance.randrange(point), point, 10 ** 60) for point in range(1, 5)]
        net = net_of(5, rows + [nets.row("push", 1, 4, 10 ** 60), nets.row("piece", 2, 0, 10 ** 60)])
        self.check(net, [4, 0], table_of(net, [4, 0]), [[Fraction(1, 10 ** 50), Fraction(3)]])

    def test_what_other_rows_do_by_size(self):
        net = net_of(3, [("piece", 0, 2, 1), ("piece", 2, 1, 3), ("push", 0, 2, 8)])
        before = seen(table_of(net, [0, 1]))
        net.change(1, (1, 1))
        self.assertEqual(seen(table_of(net, [0, 1])), ([0, 1], [[(1, 2), (-1, 2)], [(-1, 2), (1, 2)]], [(-4, 1), (4, 1)]))
        net.change(1, (3, 1))
        self.assertEqual(seen(table_of(net, [0, 1])), before)


class TheTableRefused(unittest.TestCase):
    def refusals(self, kind, net, ends):
        before = net.told()
        kept = []
        for asked in range(2):
            for question in [lambda: table_of(net, ends), lambda: inner_heights(net, ends, [(0, 1)] * 3)]:
                with self.assertRaises(kind) as caught:
                    question()
                kept.append(caught.exception)
        self.assertEqual(net.told(), before)
        return kept

    def test_no_list(self):
        for thing in NO_LISTS + [[]]:
            self.refusals(NoPoint, net_of(5, WEB), thing)

    def test_no_points(self):
        net = net_of(5, WEB)
        for thing in NO_POINTS + [5, 6, 20]:
            self.refusals(NoPoint, net, [thing])
            self.refusals(NoPoint, net, [0, thing])
            self.refusals(NoPoint, net, [thing, 1, 2])
        self.refusals(NoPoint, Net(1), [1])

    def test_a_point_twice(self):
        net = net_of(5, WEB)
        self.refusals(NoPoint, net, [0, 0])
        self.refusals(NoPoint, net, [1, 2, 1])
        self.refusals(NoPoint, net, [0, 1, 2, 3, 4, 3])

    def test_held(self):
        rows = WEB + [("hold", 0, 0, 3), ("hold", 1, 2, 5)]
        for refusal in self.refusals(Held, net_of(5, rows), [0, 1, 2]):
            self.assertEqual(refusal.number, 12)
        for refusal in self.refusals(Held, net_of(5, [("hold", 3, 1, 0)] + rows), [4]):
            self.assertEqual(refusal.number, 0)
        for refusal in self.refusals(Held, net_of(2, [("push", 0, 1, 1), ("hold", 1, 0, 0), ("hold", 0, 1, 1)]), [0, 1]):
            self.assertEqual(refusal.number, 1)

    def test_floats(self):
        rows = [("piece", 0, 5, 1), ("piece", 4, 2, 1), ("push", 0, 1, 1), ("piece", 1, 1, 2), ("piece", 3, 6, 1)]
        net = net_of(7, rows)
        for ends, points in [
            ([0], [1, 2, 3, 4, 6]), ([5, 0], [1, 2, 3, 4, 6]), ([1], [0, 2, 3, 4, 5, 6]), ([6, 5], [1, 2, 4]),
            ([2, 1, 0], [3, 6]), ([4, 3, 5], [1]),
        ]:
            for refusal in self.refusals(Floats, net, ends):
                self.assertEqual(refusal.points, points)
                refusal.points.clear()
        self.assertEqual(seen(table_of(net, [4, 3, 5, 1]))[0], [4, 3, 5, 1])
        for refusal in self.refusals(Floats, Net(20), [7]):
            self.assertEqual(refusal.points, [point for point in range(20) if point != 7])

    def test_points_floating_from_the_base_may_be_ends(self):
        net = net_of(3, [("piece", 1, 2, 4)])
        self.assertEqual(seen(table_of(net, [0, 1])), ([0, 1], wholes([[0, 0], [0, 0]]), [(0, 1), (0, 1)]))
        for refusal in self.refusals(Floats, net, [1]):
            self.assertEqual(refusal.points, [0])

    def test_the_first_one_due(self):
        held_and_loose = net_of(4, [("hold", 0, 1, 2), ("piece", 1, 0, 2)])
        for ends in [None, [], [4], [0, 0], [True], [0, -1]]:
            self.refusals(NoPoint, held_and_loose, ends)
            self.refusals(NoPoint, net_of(4, [("piece", 1, 0, 2)]), ends)
        for refusal in self.refusals(Held, held_and_loose, [0]):
            self.assertEqual(refusal.number, 0)

    def test_good_later(self):
        net = net_of(3, [("piece", 0, 1, 1)])
        self.refusals(Floats, net, [0])
        self.refusals(NoPoint, net, [3])
        net.add(Piece(2, 1, (1, 1)))
        self.assertEqual(table_of(net, [0, 2]).matrix(), [[(1, 2), (-1, 2)], [(-1, 2), (1, 2)]])
        net.add(Hold(0, 2, (1, 1)))
        self.refusals(Held, net, [0, 2])


class Taken(unittest.TestCase):
    def test_against_the_table_with_that_end_left_out(self):
        tried = 0
        for net, ends in tabled(24):
            if net.many() == 20:
                continue
            table = table_of(net, ends)
            before = seen(table)
            for point in ends:
                others = [end for end in ends if end != point]
                try:
                    expected = table_of(net, others)
                except (NoPoint, Floats):
                    continue
                smaller = table.taken(point)
                self.assertIsInstance(smaller, Table)
                self.assertEqual(seen(smaller), seen(expected))
                self.assertEqual(seen(table.taken(point=point)), seen(smaller))
                self.assertEqual(seen(table), before)
                tried += 1
        self.assertGreater(tried, 100)

    def test_in_any_order(self):
        net = net_of(5, WEB)
        expected = seen(table_of(net, [2, 0]))
        for order in itertools.permutations([1, 3, 4]):
            table = table_of(net, [3, 2, 1, 0, 4])
            for point in order:
                table = table.taken(point)
            self.assertEqual(seen(table), expected)

    def test_of_any_numbers(self):
        table = Table([4, 9, 2], wholes([[2, 1, 3], [0, 5, 4], [6, 7, 8]]), [(1, 1), (2, 1), (3, 1)])
        self.assertEqual(seen(table.taken(4)), ([9, 2], wholes([[5, 4], [4, -1]]), [(2, 1), (0, 1)]))
        self.assertEqual(seen(table.taken(2)), ([4, 9], [[(-1, 4), (-13, 8)], [(-3, 1), (3, 2)]], [(-1, 8), (1, 2)]))

    def test_no_point(self):
        table = table_of(net_of(5, WEB), [0, 1, 4])
        before = seen(table)
        for thing in NO_POINTS + [2, 3, 5, 6]:
            with self.assertRaises(NoPoint):
                table.taken(thing)
        self.assertEqual(seen(table), before)

    def test_the_only_one(self):
        for net, point in [(net_of(5, WEB), 3), (Net(1), 0)]:
            table = table_of(net, [point])
            with self.assertRaises(NoPoint):
                table.taken(point)
            self.assertEqual(table.ends(), [point])
        with self.assertRaises(NoPoint):
            Table([3], [[(2, 1)]], [(0, 1)]).taken(3)

    def test_floats(self):
        table = table_of(net_of(4, [("piece", 0, 2, 1), ("push", 0, 1, 5), ("piece", 3, 3, 1)]), [2, 1, 3, 0])
        before = seen(table)
        for point in [1, 3, 1]:
            with self.assertRaises(Floats) as caught:
                table.taken(point)
            self.assertEqual(caught.exception.points, [point])
            caught.exception.points.clear()
        self.assertEqual(seen(table), before)
        smaller = table.taken(0)
        with self.assertRaises(Floats) as caught:
            smaller.taken(2)
        self.assertEqual(caught.exception.points, [2])
        with self.assertRaises(NoPoint):
            smaller.taken(0)

    def test_it_is_its_own_number_that_counts(self):
        table = Table([5, 6], wholes([[0, 3], [4, 1]]), [(1, 1), (2, 1)])
        with self.assertRaises(Floats) as caught:
            table.taken(5)
        self.assertEqual(caught.exception.points, [5])
        self.assertEqual(seen(table.taken(6)), ([5], [[(-12, 1)]], [(-5, 1)]))


class ToldAsANet(unittest.TestCase):
    def test_in_the_order_told(self):
        table = Table([7, 3, 9], wholes([[2, -1, 0], [-1, 5, -4], [0, -4, 4]]), [(3, 1), (0, 1), (-3, 1)])
        made = table.net()
        self.assertIsInstance(made, Net)
        self.assertEqual(made.many(), 3)
        self.assertEqual(made.told(), [("piece", 0, 1, (1, 1)), ("piece", 1, 2, (1, 4)), ("push", 0, 2, (-3, 1))])

    def test_pieces_ahead_of_pushes(self):
        table = table_of(net_of(5, WEB), [2, 0, 1])
        made = table.net().told()
        self.assertEqual([row[:3] for row in made],
                         [("piece", 0, 1), ("piece", 0, 2), ("piece", 1, 2), ("push", 0, 1), ("push", 0, 2)])
        matrix = table.matrix()
        self.assertEqual([row[3] for row in made[:3]],
                         [told(-1 / Fraction(*matrix[i][j])) for i, j in [(0, 1), (0, 2), (1, 2)]])
        self.assertEqual([row[3] for row in made[3:]], table.comes()[1:])

    def test_one_end(self):
        made = table_of(net_of(5, WEB), [3]).net()
        self.assertEqual((made.many(), made.told()), (1, []))

    def test_its_table_is_the_same(self):
        for net, ends in tabled(25):
            if len(ends) > 8:
                continue
            table = table_of(net, ends)
            again = table_of(table.net(), list(range(len(ends))))
            self.assertEqual((again.matrix(), again.comes()), (table.matrix(), table.comes()))
            if len(ends) > 2:
                self.check_again(table, ends)

    def check_again(self, table, ends):
        try:
            smaller = table.taken(ends[1])
        except Floats:
            return
        again = table_of(smaller.net(), list(range(len(ends) - 1)))
        self.assertEqual((again.matrix(), again.comes()), (smaller.matrix(), smaller.comes()))

    def test_too_many(self):
        # Nine ends of one star have 36 pieces among them; pushes at four more let it be forty rows.
        for pushes, refused in [(0, False), (3, False), (4, False), (5, True), (8, True)]:
            rows = [("piece", point, 9, 1 + point) for point in range(9)]
            rows += [("push", 0, 1 + point, 3) for point in range(pushes)]
            table = table_of(net_of(10, rows), list(range(9)))
            before = seen(table)
            if refused:
                with self.assertRaises(TooMany):
                    table.net()
            else:
                self.assertEqual(table.net().count(), 36 + pushes)
            self.assertEqual(seen(table), before)

    def test_ten_ends(self):
        table = table_of(net_of(11, [("piece", point, 10, 1) for point in range(10)]), list(range(10)))
        with self.assertRaises(TooMany):
            table.net()
        self.assertEqual(table.taken(4).net().count(), 36)

    def test_twenty_ends(self):
        net = net_of(20, [("piece", point, point + 1, 2) for point in range(19)])
        self.assertEqual(table_of(net, list(range(20))).net().told(), net.told())

    def test_nobody_outside_sees_it(self):
        nets = Nets(26)
        chance = nets.chance
        for turn in range(40):
            outer, inner = 2 + turn % 4, turn % 5
            ends = chance.sample(range(outer), chance.randint(1, outer))
            places = ends + list(range(outer, outer + inner))
            beside = [nets.row("piece", chance.randrange(point), point) for point in range(1, outer)]
            beside += [nets.row(chance.choice(["piece", "push"]), chance.randrange(outer), chance.randrange(outer))
                       for row in range(3)]
            part = spanned(nets, len(places), 4)
            whole = net_of(outer + inner, beside)
            for row in part.rows():
                whole.add(row.at(places))
            table = table_of(part, list(range(len(ends))))
            smaller = net_of(outer, beside)
            for row in table.net().rows():
                smaller.add(row.at(ends))
            self.assertEqual(Answer(smaller).heights(), Answer(whole).heights()[:outer])

    def test_with_holds_beside(self):
        part = net_of(3, [("piece", 0, 2, 2), ("piece", 2, 1, 3), ("push", 0, 2, 5)])
        made = table_of(part, [0, 1]).net()
        heights = []
        for many, rows in [(4, part.rows()), (3, made.rows())]:
            net = net_of(many, [("hold", 2, 0, 10), ("piece", 1, 0, 4)])
            for row in rows:
                net.add(row.at([2, 1, 3]))
            heights.append(Answer(net).heights()[:3])
        self.assertEqual(heights[0], heights[1])


class InnerHeights(unittest.TestCase):
    def test_one_written_out(self):
        net = net_of(3, [("piece", 0, 2, 1), ("piece", 2, 1, 3), ("push", 0, 2, 8)])
        self.assertEqual(inner_heights(net, [0, 1], [(0, 1), (4, 1)]), [(0, 1), (4, 1), (7, 1)])
        self.assertEqual(inner_heights(net, [1, 0], [(0, 1), (4, 1)]), [(4, 1), (0, 1), (9, 1)])
        self.assertEqual(inner_heights(net, [1], [(5, 1)]), [(-3, 1), (5, 1), (5, 1)])

    def test_all_points_as_ends(self):
        net = net_of(3, [("piece", 0, 2, 1), ("push", 2, 1, 3)])
        self.assertEqual(inner_heights(net, [2, 0, 1], [(1, 2), (3, 1), (7, 5)]), [(3, 1), (7, 5), (1, 2)])
        self.assertEqual(inner_heights(Net(1), [0], [(7, 2)]), [(7, 2)])

    def test_many_nets(self):
        nets = Nets(28)
        for net, ends in tabled(27):
            before = net.told()
            handed = list(ends)
            heights = [nets.number() for end in ends]
            kept = list(heights)
            found = inner_heights(net, ends, heights)
            self.assertEqual(found, inner_heights(net=net, ends=ends, heights=heights))
            self.assertEqual((net.told(), ends, heights), (before, handed, kept))
            self.assertEqual(len(found), net.many())
            self.assertTrue(all(is_fraction(one) for one in found))
            self.assertEqual([found[end] for end in ends], heights)
            rests = rests_at(net, [Fraction(*one) for one in found])
            self.assertEqual([rests[point] for point in range(net.many()) if point not in ends],
                             [0] * (net.many() - len(ends)))
            brought = table_of(net, ends).brought(heights)
            self.assertEqual(brought, [told(rests[end]) for end in ends])

    def test_of_an_answer(self):
        net = net_of(5, WEB)
        heights = Answer(net).heights()
        for ends in [[0], [2, 0], [4, 3, 1]]:
            self.assertEqual(inner_heights(net, ends, [heights[end] for end in ends]), heights)


class TheAskersOwn(unittest.TestCase):
    def test_what_a_table_is_handed(self):
        ends, matrix, comes = [4, 2], wholes([[1, 2], [3, 4]]), [(5, 1), (6, 1)]
        table = Table(ends=ends, matrix=matrix, comes=comes)
        kept = copy.deepcopy((ends, matrix, comes))
        matrix[0][0] = (9, 1)
        matrix.pop()
        ends.append(7)
        comes[0] = (8, 1)
        self.assertEqual(seen(table), kept)
        self.assertEqual(table.brought(heights=[(1, 1), (1, 1)]), [(-2, 1), (1, 1)])

    def test_what_a_table_tells(self):
        table = table_of(net_of(5, WEB), [2, 0, 1])
        kept = seen(table)
        heights = [(1, 1), (2, 1), (-3, 1)]
        brought = table.brought(heights)
        rows = table.net().told()
        table.ends().clear()
        table.comes()[0] = "other"
        told_matrix = table.matrix()
        told_matrix[0][0] = "other"
        told_matrix.pop()
        table.brought(heights).clear()
        table.net().change(0, (99, 1))
        table.taken(0).matrix().clear()
        self.assertEqual(seen(table), kept)
        self.assertEqual((table.brought(heights), table.net().told()), (brought, rows))
        self.assertEqual(heights, [(1, 1), (2, 1), (-3, 1)])

    def test_a_taken_table_goes_its_own_way(self):
        table = table_of(net_of(5, WEB), [2, 0, 1])
        smaller = table.taken(0)
        kept = seen(smaller)
        table.taken(1)
        smaller.matrix()[0].clear()
        smaller.taken(1)
        self.assertEqual(seen(smaller), kept)

    def test_what_is_done_to_the_net_later(self):
        net = net_of(5, WEB)
        ends = [2, 0, 1]
        table = table_of(net, ends)
        kept = seen(table)
        net.change(0, (99, 1))
        net.add(Push(0, 1, (1, 1)))
        net.add(Hold(0, 1, (1, 1)))
        ends.append(3)
        self.assertEqual(seen(table), kept)

    def test_inner_heights(self):
        net = net_of(5, WEB)
        heights = [(1, 1), (2, 1)]
        first = inner_heights(net, [0, 1], heights)
        kept = list(first)
        first[0] = "other"
        first.pop()
        self.assertEqual(inner_heights(net, [0, 1], heights), kept)
        every = list(range(5))
        given = [(1, 1)] * 5
        inner_heights(net, every, given).clear()
        self.assertEqual((every, given), (list(range(5)), [(1, 1)] * 5))


if __name__ == "__main__":
    unittest.main()
