"""Nets made smaller by shape: [24], and of [2] and [3] what speaks of it."""

import unittest
from fractions import Fraction

from ohmyard.errors import NoSize
from ohmyard.heights import Answer
from ohmyard.ratios import is_fraction
from ohmyard.rows import Piece, Push
from ohmyard.shapes import in_row, mesh_of, side_by_side, star_of
from samples import Nets, net_of, told

NO_SIZES = [
    (0, 1), (-1, 1), (-1, 2), (2, 4), (2, 2), (0, 2), (1, 0), (1, -1), (-1, -1), 0, 1, 5, 1.0, True, False, None, "", "1",
    "1/2", (), (1,), (1, 2, 3), [1, 2], [1, 1], (True, 1), (1, True), ("1", 1), (1, None), (1.0, 1), Fraction(1, 2),
    object(),
]
NO_LISTS = [
    None, 0, 1, 1.5, True, False, "", "1", (), ((1, 1),), ((1, 1), (1, 1), (1, 1)), {}, {0: (1, 1)}, {(1, 1): 0}, {(1, 1)},
    (1, 1), (1, 2), object(), list,
]


def wholes(some):
    return [(one, 1) for one in some]


def some_lists(seed, many):
    nets = Nets(seed)
    return [[nets.above_nought(most) for size in range(many)] for most in [1, 4, 9, 1000, 10 ** 50] for turn in range(4)]


class InARowAndSideBySide(unittest.TestCase):
    def test_written_out(self):
        self.assertEqual(in_row([(3, 2)]), (3, 2))
        self.assertEqual(in_row([(1, 2), (1, 3), (1, 6)]), (1, 1))
        self.assertEqual(side_by_side([(3, 2)]), (3, 2))
        self.assertEqual(side_by_side(wholes([2, 2])), (1, 1))
        self.assertEqual(side_by_side(wholes([3, 6])), (2, 1))
        self.assertEqual(side_by_side([(1, 2), (1, 3)]), (1, 5))
        self.assertEqual(in_row(sizes=wholes([1, 2])), (3, 1))
        self.assertEqual(side_by_side(sizes=wholes([1, 1, 1])), (1, 3))

    def test_against_plain_reckoning(self):
        for many in [1, 2, 3, 7, 40]:
            for sizes in some_lists(21, many):
                kept = list(sizes)
                self.assertEqual(in_row(sizes), told(sum(Fraction(*size) for size in sizes)))
                self.assertEqual(side_by_side(sizes), told(1 / sum(1 / Fraction(*size) for size in sizes)))
                self.assertTrue(is_fraction(in_row(sizes)) and is_fraction(side_by_side(sizes)))
                self.assertEqual(sizes, kept)

    def test_as_one_piece_in_a_net(self):
        for sizes in some_lists(22, 3):
            row = net_of(4, [("piece", point, point + 1, size) for point, size in enumerate(sizes)] + [("push", 3, 0, 1)])
            self.assertEqual(Answer(row).fall(0, 3), in_row(sizes))
            side = net_of(2, [("piece", 0, 1, size) for size in sizes] + [("push", 1, 0, 1)])
            self.assertEqual(Answer(side).fall(0, 1), side_by_side(sizes))


class StarsAndMeshes(unittest.TestCase):
    def test_mesh_written_out(self):
        self.assertEqual(mesh_of(wholes([1])), [])
        self.assertEqual(mesh_of(wholes([2, 3])), [(0, 1, (5, 1))])
        self.assertEqual(mesh_of(wholes([1, 2, 4])), [(0, 1, (7, 2)), (0, 2, (7, 1)), (1, 2, (14, 1))])
        self.assertEqual(mesh_of(legs=wholes([1, 1, 1, 1])), [
            (0, 1, (4, 1)), (0, 2, (4, 1)), (0, 3, (4, 1)), (1, 2, (4, 1)), (1, 3, (4, 1)), (2, 3, (4, 1)),
        ])

    def test_star_written_out(self):
        self.assertEqual(star_of(wholes([1, 2, 3])), [(1, 2), (1, 3), (1, 1)])
        self.assertEqual(star_of(sides=wholes([3, 3, 3])), wholes([1, 1, 1]))

    def test_mesh_against_plain_reckoning(self):
        for many in [1, 2, 3, 5, 12]:
            for legs in some_lists(23, many):
                kept = list(legs)
                plain = [Fraction(*leg) for leg in legs]
                shares = sum(1 / leg for leg in plain)
                expected = [(i, j, told(plain[i] * plain[j] * shares)) for i in range(many) for j in range(i + 1, many)]
                made = mesh_of(legs)
                self.assertEqual(made, expected)
                self.assertIs(type(made), list)
                self.assertTrue(all(type(side) is tuple and is_fraction(side[2]) for side in made))
                self.assertEqual(legs, kept)

    def test_star_against_plain_reckoning(self):
        for sides in some_lists(24, 3):
            kept = list(sides)
            one, two, three = [Fraction(*side) for side in sides]
            around = one + two + three
            made = star_of(sides)
            self.assertEqual(made, [told(one * three / around), told(one * two / around), told(two * three / around)])
            self.assertIs(type(made), list)
            self.assertEqual(sides, kept)

    def test_a_meshs_stars_mesh_is_the_mesh(self):
        for sides in some_lists(25, 3):
            mesh = {(i, j): size for i, j, size in mesh_of(star_of(sides))}
            self.assertEqual([mesh[0, 1], mesh[1, 2], mesh[0, 2]], sides)
        for legs in some_lists(26, 3):
            mesh = {(i, j): size for i, j, size in mesh_of(legs)}
            self.assertEqual(star_of([mesh[0, 1], mesh[1, 2], mesh[0, 2]]), legs)

    def test_nobody_outside_sees_it(self):
        nets = Nets(27)
        for many in [2, 3, 4]:
            legs = [nets.above_nought() for leg in range(many)]
            star = net_of(many + 1, [("piece", many, point, leg) for point, leg in enumerate(legs)])
            mesh = net_of(many, [("piece", i, j, size) for i, j, size in mesh_of(legs)])
            for net in [star, mesh]:
                net.add(Push(0, many - 1, (3, 2)))
                net.add(Piece(1, 0, (5, 3)))
            self.assertEqual(Answer(star).heights()[:many], Answer(mesh).heights())


class Refused(unittest.TestCase):
    def test_no_list_or_an_empty_one(self):
        for question in [in_row, side_by_side, mesh_of, star_of]:
            for thing in NO_LISTS + [[]]:
                with self.assertRaises(NoSize):
                    question(thing)

    def test_no_size_among_them(self):
        for question in [in_row, side_by_side, mesh_of, star_of]:
            for thing in NO_SIZES:
                sizes = wholes([1, 2, 3])
                for place in range(3):
                    bad = sizes[:place] + [thing] + sizes[place + 1:]
                    kept = list(bad)
                    with self.assertRaises(NoSize):
                        question(bad)
                    self.assertEqual(bad, kept)
                with self.assertRaises(NoSize):
                    question([thing])

    def test_a_star_of_other_than_three(self):
        for many in [1, 2, 4, 5]:
            with self.assertRaises(NoSize):
                star_of(wholes([1] * many))

    def test_good_later(self):
        sizes = wholes([1, 0, 3])
        for question in [in_row, side_by_side, mesh_of, star_of]:
            with self.assertRaises(NoSize):
                question(sizes)
        sizes[1] = (2, 1)
        self.assertEqual(in_row(sizes), (6, 1))
        self.assertEqual(star_of(sizes), [(1, 2), (1, 3), (1, 1)])


class TheAskersOwn(unittest.TestCase):
    def test_lists(self):
        for question in [mesh_of, star_of]:
            sizes = wholes([1, 2, 3])
            first = question(sizes)
            kept = list(first)
            first.clear()
            second = question(sizes)
            self.assertEqual(second, kept)
            sizes[0] = (9, 1)
            self.assertEqual(second, kept)


if __name__ == "__main__":
    unittest.main()
