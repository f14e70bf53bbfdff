"""Elimination with papers: [11], [12], [13], and of [2] what speaks of it."""

import copy
import itertools
import random
import unittest
from fractions import Fraction

from ohmyard.errors import Lame
from ohmyard.ratios import is_fraction
from ohmyard.solving import multiples, solved, summed, weight


def told(value):
    value = Fraction(value)
    return (value.numerator, value.denominator)


def of_wholes(rows):
    return [[(number, 1) for number in row] for row in rows]


def plain_sum(some, matrix):
    columns = range(len(matrix[0])) if matrix else []
    return [told(sum(Fraction(*one) * Fraction(*row[column]) for one, row in zip(some, matrix))) for column in columns]


def plain_products(matrix, some):
    return [told(sum(Fraction(*a) * Fraction(*b) for a, b in zip(row, some))) for row in matrix]


def plain_weight(matrix):
    result = Fraction(0)
    for way in itertools.permutations(range(len(matrix))):
        product = Fraction(1)
        for row, column in enumerate(way):
            product *= Fraction(*matrix[row][column])
        odd = sum(1 for lower in range(len(way)) for upper in range(lower) if way[upper] > way[lower]) % 2
        result += -product if odd else product
    return told(result)


def unit(many):
    return [[(1, 1) if row == column else (0, 1) for column in range(many)] for row in range(many)]


class Some:
    """Matrices that are drawn alike each time."""

    def __init__(self, seed):
        self.chance = random.Random(seed)

    def number(self, most, noughts):
        if self.chance.randrange(100) < noughts:
            return (0, 1)
        return told(Fraction(self.chance.randint(-most, most), self.chance.randint(1, most)))

    def rows(self, many, width, most=9, noughts=30):
        return [[self.number(most, noughts) for column in range(width)] for row in range(many)]

    def lame(self, many, most=9):
        rows = self.rows(many, many, most, 20)
        place = self.chance.randrange(many)
        others = [self.number(most, 20) if row != place else (0, 1) for row in range(many)]
        rows[place] = plain_sum(others, rows)
        return rows

    def every_sort(self):
        found = [self.rows(many, many, most, noughts) for many in range(1, 7) for most in [1, 3, 9]
                 for noughts in [0, 30, 60] for turn in range(6)]
        found += [self.rows(many, many, 5, 40) for many in [12, 13, 15, 20]]
        found += [self.rows(3, 3, 10 ** 120, 10), self.rows(5, 5, 10 ** 60, 20), self.rows(12, 12, 10 ** 12, 30)]
        found += [shuffled_unit(self.chance, many) for many in [2, 3, 5, 12, 17]]
        return found


def shuffled_unit(chance, many):
    rows = unit(many)
    chance.shuffle(rows)
    return rows


WITH_NOUGHTS = [
    of_wholes([[0, 1], [1, 0]]),
    of_wholes([[0, 2, 0], [0, 0, 3], [5, 0, 0]]),
    of_wholes([[1, 1, 1], [1, 1, 2], [1, 2, 1]]),
    of_wholes([[0, 0, 0, 7], [0, 0, 3, 1], [0, 2, 0, 0], [1, 9, 9, 9]]),
    of_wholes([[1, 2, 3], [2, 4, 7], [0, 5, 0]]),
    of_wholes([[0, 1, 1], [1, 0, 1], [1, 1, 0]]),
]

LAME = [
    of_wholes([[0]]),
    of_wholes([[0, 0], [0, 0]]),
    of_wholes([[1, 2], [2, 4]]),
    of_wholes([[0, 1], [0, 5]]),
    of_wholes([[0, 0], [3, 5]]),
    of_wholes([[3, 5], [0, 0]]),
    of_wholes([[1, 2, 3], [4, 5, 6], [7, 8, 9]]),
    of_wholes([[0, 0, 1], [0, 0, 2], [1, 0, 0]]),
    of_wholes([[1, 0, 0], [0, 0, 1], [0, 0, 1]]),
    of_wholes([[0] * 12 for row in range(12)]),
    [[(1, 2), (1, 3)], [(3, 2), (1, 1)]],
]


class Summed(unittest.TestCase):
    def test_column_by_column(self):
        self.assertEqual(summed([(1, 1), (2, 1)], of_wholes([[1, 2], [10, 20]])), [(21, 1), (42, 1)])
        self.assertEqual(summed([(1, 2), (1, 3)], of_wholes([[1, 2], [1, 3]])), [(5, 6), (2, 1)])
        self.assertEqual(summed([(1, 2), (-1, 2)], of_wholes([[4, 1], [4, 1]])), [(0, 1), (0, 1)])
        self.assertEqual(summed([(1, 3)], [[(3, 7)]]), [(1, 7)])

    def test_of_no_rows(self):
        self.assertEqual(summed([], []), [])

    def test_by_noughts(self):
        self.assertEqual(summed([(0, 1), (0, 1)], [[(1, 2), (1, 3)], [(5, 1), (6, 1)]]), [(0, 1), (0, 1)])

    def test_rows_of_another_length(self):
        self.assertEqual(summed([(2, 1)], of_wholes([[1, 2, 3]])), [(2, 1), (4, 1), (6, 1)])
        self.assertEqual(summed([(1, 1), (1, 1), (1, 2)], of_wholes([[1], [2], [3]])), [(9, 2)])
        self.assertEqual(summed([(1, 1), (2, 1)], [[], []]), [])
        some = Some(3)
        for many, width in [(1, 5), (5, 1), (4, 7), (7, 4), (12, 2), (2, 12), (3, 0), (60, 3)]:
            rows = some.rows(many, width)
            by = some.rows(1, many)[0]
            self.assertEqual(summed(by, rows), plain_sum(by, rows))

    def test_against_plain_reckoning(self):
        some = Some(4)
        for matrix in some.every_sort():
            by = some.rows(1, len(matrix), 30, 20)[0]
            made = summed(by, matrix)
            self.assertIs(type(made), list)
            self.assertTrue(all(is_fraction(one) for one in made))
            self.assertEqual(made, plain_sum(by, matrix))

    def test_by_the_names_of_the_arguments(self):
        self.assertEqual(summed(matrix=[[(3, 1)]], multiples=[(1, 3)]), [(1, 1)])


class SolvedAndMultiples(unittest.TestCase):
    def check(self, matrix, right):
        found = solved(matrix, right)
        self.assertIs(type(found), list)
        self.assertEqual(len(found), len(matrix))
        self.assertTrue(all(is_fraction(one) for one in found))
        self.assertEqual(plain_products(matrix, found), right)
        paper = multiples(matrix)
        self.assertIs(type(paper), list)
        self.assertEqual([plain_sum(row, matrix) for row in paper], unit(len(matrix)))
        self.assertEqual([summed(row, matrix) for row in paper], unit(len(matrix)))
        for row in paper:
            self.assertIs(type(row), list)
            self.assertTrue(all(is_fraction(one) for one in row))
        self.assertEqual(plain_products(paper, right), found)

    def test_plain_ones(self):
        matrix = of_wholes([[2, 1], [1, 3]])
        self.assertEqual(solved(matrix, [(5, 1), (10, 1)]), [(1, 1), (3, 1)])
        self.assertEqual(multiples(matrix), [[(3, 5), (-1, 5)], [(-1, 5), (2, 5)]])
        self.assertEqual(solved([[(2, 3)]], [(1, 1)]), [(3, 2)])
        self.assertEqual(multiples([[(-2, 3)]]), [[(-3, 2)]])

    def test_not_the_same_seen_from_the_side(self):
        matrix = of_wholes([[1, 2], [0, 1]])
        self.assertEqual(multiples(matrix), of_wholes([[1, -2], [0, 1]]))
        self.assertEqual(solved(matrix, [(5, 1), (1, 1)]), [(3, 1), (1, 1)])

    def test_of_the_empty_matrix(self):
        self.assertEqual(solved([], []), [])
        self.assertEqual(multiples([]), [])

    def test_with_noughts_in_any_order_of_rows(self):
        for matrix in WITH_NOUGHTS:
            right = [(number * number - 3, number + 1) for number in range(len(matrix))]
            right = [told(Fraction(*one)) for one in right]
            for order in itertools.permutations(range(len(matrix))):
                self.check([matrix[place] for place in order], [right[place] for place in order])

    def test_many_matrices(self):
        some = Some(5)
        sound = 0
        for matrix in some.every_sort():
            right = some.rows(1, len(matrix), 20, 20)[0]
            try:
                solved(matrix, right)
            except Lame:
                continue
            sound += 1
            self.check(matrix, right)
        self.assertGreater(sound, 150)

    def test_right_sides_of_nought(self):
        some = Some(6)
        matrix = unit(4)
        self.assertEqual(solved(matrix, [(0, 1)] * 4), [(0, 1)] * 4)
        matrix = some.rows(6, 6, 9, 0)
        self.check(matrix, [(0, 1)] * 6)

    def test_sixty_rows(self):
        some = Some(7)
        matrix = some.rows(60, 60, 2, 90)
        for place in range(60):
            matrix[place][place] = (50 + place, 1)
        right = some.rows(1, 60, 9, 20)[0]
        found = solved(matrix, right)
        self.assertEqual(plain_products(matrix, found), right)
        paper = multiples(matrix)
        for place in [0, 31, 59]:
            self.assertEqual(summed(paper[place], matrix), unit(60)[place])

    def test_by_the_names_of_the_arguments(self):
        self.assertEqual(solved(right=[(1, 1)], matrix=[[(2, 1)]]), [(1, 2)])
        self.assertEqual(multiples(matrix=[[(2, 1)]]), [[(1, 2)]])
        self.assertEqual(weight(matrix=[[(2, 1)]]), (2, 1))


class Refused(unittest.TestCase):
    def check_borne(self, refusal, matrix):
        by = refusal.multiples
        self.assertIs(type(by), list)
        self.assertEqual(len(by), len(matrix))
        self.assertTrue(all(is_fraction(one) for one in by))
        self.assertNotEqual(by, [(0, 1)] * len(matrix))
        self.assertEqual(plain_sum(by, matrix), [(0, 1)] * len(matrix))

    def check(self, matrix, rights):
        for right in rights:
            with self.assertRaises(Lame) as caught:
                solved(matrix, right)
            self.check_borne(caught.exception, matrix)
        with self.assertRaises(Lame) as caught:
            multiples(matrix)
        self.check_borne(caught.exception, matrix)
        self.assertEqual(weight(matrix), (0, 1))

    def rights(self, matrix):
        many = len(matrix)
        total_of_columns = plain_products(matrix, [(1, 1)] * many)
        return [[(0, 1)] * many, [(1, 1)] * many, [(place, 1) for place in range(many)], total_of_columns]

    def test_whatever_the_right_side(self):
        for matrix in LAME:
            self.check(matrix, self.rights(matrix))

    def test_in_any_order_of_rows_and_columns(self):
        for matrix in LAME:
            if len(matrix) <= 3:
                for order in itertools.permutations(range(len(matrix))):
                    turned = [matrix[place] for place in order]
                    self.check(turned, self.rights(matrix))
                    self.check([[row[place] for place in order] for row in matrix], self.rights(matrix))

    def test_many_lame_ones(self):
        some = Some(8)
        for many in list(range(1, 8)) + [12, 16]:
            for turn in range(5):
                matrix = some.lame(many)
                self.check(matrix, self.rights(matrix)[:2])
        matrix = some.lame(4, 10 ** 80)
        self.check(matrix, self.rights(matrix))

    def test_lame_in_columns(self):
        some = Some(9)
        for many in [2, 5, 13]:
            matrix = some.rows(many, many, 9, 0)
            for row in matrix:
                row[many // 2] = (0, 1)
            self.check(matrix, self.rights(matrix))
            for row in matrix:
                row[many // 2] = row[0]
            self.check(matrix, self.rights(matrix))

    def test_good_later(self):
        matrix = of_wholes([[1, 2], [2, 4]])
        for asked in range(2):
            with self.assertRaises(Lame):
                solved(matrix, [(1, 1), (1, 1)])
        matrix[1][1] = (5, 1)
        self.assertEqual(solved(matrix, [(1, 1), (1, 1)]), [(3, 1), (-1, 1)])


class Weight(unittest.TestCase):
    def test_plain_ones(self):
        self.assertEqual(weight([]), (1, 1))
        self.assertEqual(weight([[(-3, 7)]]), (-3, 7))
        self.assertEqual(weight(of_wholes([[1, 2], [3, 4]])), (-2, 1))
        self.assertEqual(weight(of_wholes([[0, 1], [1, 0]])), (-1, 1))
        self.assertEqual(weight(of_wholes([[0, 0, 1], [1, 0, 0], [0, 1, 0]])), (1, 1))
        self.assertEqual(weight(of_wholes([[2, 0, 0], [5, 3, 0], [7, 11, 4]])), (24, 1))
        self.assertEqual(weight([[(1, 2), (1, 3)], [(1, 5), (1, 7)]]), (1, 210))

    def test_the_sum_over_all_ways(self):
        some = Some(10)
        seen = {True: 0, False: 0}
        for matrix in some.every_sort() + WITH_NOUGHTS + LAME:
            if len(matrix) <= 6:
                made = weight(matrix)
                self.assertTrue(is_fraction(made))
                self.assertEqual(made, plain_weight(matrix))
                seen[made == (0, 1)] += 1
        self.assertGreater(min(seen.values()), 10)

    def test_nought_just_where_the_matrix_is_lame(self):
        some = Some(11)
        for matrix in some.every_sort() + WITH_NOUGHTS + LAME:
            try:
                multiples(matrix)
            except Lame:
                self.assertEqual(weight(matrix), (0, 1))
            else:
                self.assertNotEqual(weight(matrix), (0, 1))

    def test_two_rows_exchanged(self):
        some = Some(12)
        for many in [2, 3, 5, 12, 20]:
            matrix = some.rows(many, many, 9, 20)
            top, bottom = weight(matrix)
            for upper, lower in [(0, 1), (0, many - 1), (many - 2, many - 1)]:
                turned = list(matrix)
                turned[upper], turned[lower] = turned[lower], turned[upper]
                self.assertEqual(weight(turned), (-top, bottom))

    def test_of_unit_matrices(self):
        for many in range(1, 61, 7):
            self.assertEqual(weight(unit(many)), (1, 1))


class TheAskersOwn(unittest.TestCase):
    def test_what_is_handed_in_is_not_changed(self):
        some = Some(13)
        for matrix in WITH_NOUGHTS + LAME + [some.rows(4, 4)]:
            right = some.rows(1, len(matrix))[0]
            before = copy.deepcopy((matrix, right))
            for asked in range(2):
                for question in [lambda: solved(matrix, right), lambda: multiples(matrix), lambda: weight(matrix),
                                 lambda: summed(right, matrix)]:
                    try:
                        question()
                    except Lame as refusal:
                        refusal.multiples.clear()
                    self.assertEqual((matrix, right), before)

    def test_what_is_told_is_the_askers_own(self):
        matrix = of_wholes([[2, 1], [1, 3]])
        right = [(5, 1), (10, 1)]
        for question in [lambda: solved(matrix, right), lambda: multiples(matrix), lambda: summed(right, matrix)]:
            first = question()
            kept = copy.deepcopy(first)
            second = question()
            self.assertEqual(second, kept)
            self.assertIsNot(second, first)
            if isinstance(first[0], list):
                first[0][0] = "other"
            first.append("more")
            self.assertEqual(second, kept)
            self.assertEqual(question(), kept)
            self.assertEqual((matrix, right), (of_wholes([[2, 1], [1, 3]]), [(5, 1), (10, 1)]))

    def test_a_matrix_changed_later_changes_nothing_told(self):
        matrix = unit(2)
        paper = multiples(matrix)
        sums = summed([(1, 1), (0, 1)], matrix)
        matrix[0][0] = (5, 1)
        matrix[1].clear()
        self.assertEqual(paper, unit(2))
        self.assertEqual(sums, [(1, 1), (0, 1)])

    def test_rows_that_are_one_object(self):
        row = [(1, 1), (2, 1)]
        with self.assertRaises(Lame):
            solved([row, row], [(1, 1), (1, 1)])
        self.assertEqual(row, [(1, 1), (2, 1)])
        self.assertEqual(summed([(1, 1), (1, 1)], [row, row]), [(2, 1), (4, 1)])


if __name__ == "__main__":
    unittest.main()
