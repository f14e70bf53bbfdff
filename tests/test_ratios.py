"""Fractions and reckoning with them: [5], [6], and of [2] and [3] what speaks of them."""

import math
import unittest
from fractions import Fraction

from ohmyard.errors import NoNumber, OhmError
from ohmyard.ratios import fraction, is_fraction, is_whole, minus, over, plus, times, total, under

BIG = 10 ** 250 + 7
HUGE = 7 ** 1500 * 2 ** 900
WHOLES = list(range(-13, 14)) + [60, -84, 1001, BIG, -BIG, BIG * 30, HUGE, -HUGE, HUGE // 7]
NO_WHOLES = [
    True, False, None, "", "1", "a", b"1", 1.0, 0.5, float("nan"), 1j, Fraction(1), Fraction(1, 2),
    (), (1,), (1, 1), (1, 2), (0, 1), [], [1], [1, 2], {}, {1: 1}, {1}, object(), int, len,
]


class Whole(int):
    pass


def told(value):
    return (value.numerator, value.denominator)


def some_fractions():
    tops = [-30, -7, -6, -1, 0, 1, 2, 9, 35, BIG, -BIG]
    bottoms = [1, 2, 3, 6, 7, 10, BIG + 4]
    return sorted(set([told(Fraction(top, bottom)) for top in tops for bottom in bottoms]))


class AFraction(unittest.TestCase):
    def check_form(self, made):
        self.assertIs(type(made), tuple)
        self.assertEqual(len(made), 2)
        self.assertIs(type(made[0]), int)
        self.assertIs(type(made[1]), int)
        self.assertGreaterEqual(made[1], 1)
        self.assertEqual(math.gcd(made[0], made[1]), 1)

    def test_of_two_whole_numbers(self):
        for top in WHOLES:
            for bottom in WHOLES:
                if bottom != 0:
                    made = fraction(top, bottom)
                    self.check_form(made)
                    self.assertEqual(made, told(Fraction(top, bottom)))

    def test_plain_ones(self):
        self.assertEqual(fraction(6, 4), (3, 2))
        self.assertEqual(fraction(-6, 4), (-3, 2))
        self.assertEqual(fraction(6, -4), (-3, 2))
        self.assertEqual(fraction(-6, -4), (3, 2))
        self.assertEqual(fraction(8, 4), (2, 1))
        self.assertEqual(fraction(4, 8), (1, 2))

    def test_nought(self):
        for bottom in [1, -1, 2, -9, BIG, -HUGE]:
            self.assertEqual(fraction(0, bottom), (0, 1))
        self.assertEqual(fraction(0), (0, 1))

    def test_without_a_second_number(self):
        for top in WHOLES:
            self.assertEqual(fraction(top), (top, 1))
            self.check_form(fraction(top))

    def test_of_four_thousand_figures(self):
        long = 10 ** 3999
        self.assertEqual(fraction(long + 1, long), (long + 1, long))
        self.assertEqual(fraction(long, -(long // 1000)), (-1000, 1))
        self.assertEqual(fraction(-long), (-long, 1))

    def test_by_the_names_of_the_arguments(self):
        self.assertEqual(fraction(top=2, bottom=-6), (-1, 3))

    def test_a_sort_of_int_is_a_whole_number(self):
        self.check_form(fraction(Whole(6), Whole(-4)))
        self.check_form(fraction(Whole(5)))

    def test_refused_with_a_bottom_of_nought(self):
        for top in WHOLES:
            with self.assertRaises(NoNumber):
                fraction(top, 0)

    def test_refused_of_what_is_no_whole_number(self):
        for thing in NO_WHOLES:
            for handed in [(thing,), (thing, 1), (thing, 0), (1, thing), (0, thing), (thing, thing)]:
                with self.assertRaises(NoNumber, msg=repr(handed)):
                    fraction(*handed)

    def test_refused_once_good_later(self):
        for handed in [(1, 0), (True, 2), (1, None), ("2", 4)]:
            with self.assertRaises(OhmError):
                fraction(*handed)
            self.assertEqual(fraction(2, 4), (1, 2))
            self.assertEqual(fraction(3), (3, 1))

    def test_what_is_handed_in_is_not_changed(self):
        handed = [1, 2]
        with self.assertRaises(NoNumber):
            fraction(handed)
        with self.assertRaises(NoNumber):
            fraction(1, handed)
        self.assertEqual(handed, [1, 2])


class WhatIsOne(unittest.TestCase):
    def test_whole_numbers(self):
        for thing in WHOLES + [Whole(3), 10 ** 3999]:
            self.assertIs(is_whole(thing), True)

    def test_no_whole_numbers(self):
        for thing in NO_WHOLES:
            self.assertIs(is_whole(thing), False, repr(thing))

    def test_fractions(self):
        for thing in some_fractions() + [(0, 1), (1, 1), (-1, 1), (-3, 2), (HUGE, HUGE + 1), (10 ** 3999, 1)]:
            self.assertIs(is_fraction(thing), True, repr(thing))

    def test_not_in_lowest_terms(self):
        for thing in [(2, 4), (-2, 4), (2, 2), (0, 2), (0, BIG), (6, 3), (-6, 3), (HUGE, 7), (3 * BIG, 2 * BIG)]:
            self.assertIs(is_fraction(thing), False, repr(thing))

    def test_bottom_of_nought_or_below(self):
        for thing in [(0, 0), (1, 0), (-1, 0), (1, -1), (-1, -1), (0, -1), (1, -2), (2, -4), (3, -BIG)]:
            self.assertIs(is_fraction(thing), False, repr(thing))

    def test_no_two_whole_numbers(self):
        for thing in NO_WHOLES:
            self.assertIs(is_fraction((thing, 1)), False, repr(thing))
            self.assertIs(is_fraction((1, thing)), False, repr(thing))
            self.assertIs(is_fraction((thing, thing)), False, repr(thing))

    def test_no_tuple_of_two(self):
        for thing in [[1, 2], [0, 1], (), (1,), (1, 2, 3), (1, 1, 1), {1: 2, 3: 4}, {1, 2}, range(1, 3), "12", b"12"]:
            self.assertIs(is_fraction(thing), False, repr(thing))
        for thing in [None, True, False, 0, 1, 2, 1.5, "1/2", "", Fraction(1, 2), object(), tuple]:
            self.assertIs(is_fraction(thing), False, repr(thing))

    def test_asking_changes_nothing(self):
        handed = [1, 2]
        self.assertIs(is_fraction(handed), False)
        self.assertIs(is_whole(handed), False)
        self.assertEqual(handed, [1, 2])


class Reckoning(unittest.TestCase):
    def check(self, own, theirs):
        for one in some_fractions():
            for other in some_fractions():
                made = own(one, other)
                self.assertIs(type(made), tuple)
                self.assertTrue(is_fraction(made))
                self.assertEqual(made, told(theirs(Fraction(*one), Fraction(*other))))

    def test_plus(self):
        self.assertEqual(plus((1, 2), (1, 3)), (5, 6))
        self.assertEqual(plus((1, 2), (-1, 2)), (0, 1))
        self.assertEqual(plus((1, 6), (1, 3)), (1, 2))
        self.check(plus, lambda one, other: one + other)

    def test_minus(self):
        self.assertEqual(minus((1, 2), (1, 3)), (1, 6))
        self.assertEqual(minus((1, 3), (1, 2)), (-1, 6))
        self.assertEqual(minus((5, 7), (5, 7)), (0, 1))
        self.check(minus, lambda one, other: one - other)

    def test_times(self):
        self.assertEqual(times((2, 3), (3, 4)), (1, 2))
        self.assertEqual(times((-2, 3), (0, 1)), (0, 1))
        self.check(times, lambda one, other: one * other)

    def test_over(self):
        self.assertEqual(over((1, 2), (3, 4)), (2, 3))
        self.assertEqual(over((1, 2), (-3, 4)), (-2, 3))
        self.assertEqual(over((-1, 2), (-3, 4)), (2, 3))
        self.assertEqual(over((0, 1), (-3, 4)), (0, 1))
        for one in some_fractions():
            for other in some_fractions():
                if other != (0, 1):
                    made = over(one, other)
                    self.assertTrue(is_fraction(made))
                    self.assertEqual(made, told(Fraction(*one) / Fraction(*other)))

    def test_over_by_nought(self):
        for one in some_fractions():
            with self.assertRaises(NoNumber):
                over(one, (0, 1))
            self.assertEqual(over(one, (1, 1)), one)

    def test_under(self):
        self.assertIs(under((1, 3), (1, 2)), True)
        self.assertIs(under((1, 2), (1, 3)), False)
        self.assertIs(under((1, 2), (1, 2)), False)
        self.assertIs(under((-1, 2), (-1, 3)), True)
        self.assertIs(under((-1, 3), (-1, 2)), False)
        self.assertIs(under((-1, 3), (-1, 3)), False)
        self.assertIs(under((-1, 2), (0, 1)), True)
        self.assertIs(under((0, 1), (-1, 2)), False)
        self.assertIs(under((0, 1), (0, 1)), False)
        for one in some_fractions():
            for other in some_fractions():
                self.assertIs(under(one, other), Fraction(*one) < Fraction(*other))

    def test_by_the_names_of_the_arguments(self):
        self.assertEqual(plus(other=(1, 3), one=(1, 2)), (5, 6))
        self.assertEqual(minus(other=(1, 3), one=(1, 2)), (1, 6))
        self.assertEqual(times(other=(1, 3), one=(1, 2)), (1, 6))
        self.assertEqual(over(other=(1, 3), one=(1, 2)), (3, 2))
        self.assertIs(under(other=(1, 3), one=(1, 2)), False)
        self.assertEqual(total(some=[(1, 3)]), (1, 3))


class Total(unittest.TestCase):
    def test_of_none(self):
        self.assertEqual(total([]), (0, 1))
        self.assertIs(type(total([])), tuple)

    def test_of_some(self):
        self.assertEqual(total([(3, 2)]), (3, 2))
        self.assertEqual(total([(1, 2), (1, 3), (1, 6)]), (1, 1))
        self.assertEqual(total([(1, 2), (-1, 2)]), (0, 1))
        self.assertEqual(total([(1, 2)] * 3), (3, 2))
        made = total(some_fractions())
        self.assertTrue(is_fraction(made))
        self.assertEqual(made, told(sum([Fraction(*one) for one in some_fractions()])))

    def test_the_list_is_not_changed(self):
        handed = [(1, 2), (0, 1), (-7, 3)]
        self.assertEqual(total(handed), total(handed))
        self.assertEqual(handed, [(1, 2), (0, 1), (-7, 3)])

    def test_asked_again(self):
        handed = [(1, 2)]
        first = total(handed)
        handed.append((1, 2))
        self.assertEqual(first, (1, 2))
        self.assertEqual(total(handed), (1, 1))
        self.assertEqual(total([]), (0, 1))


if __name__ == "__main__":
    unittest.main()
