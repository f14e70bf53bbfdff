"""Fractions: tuples (top, bottom) of whole numbers in lowest terms, and reckoning with them."""

from ohmyard.errors import NoNumber

NOUGHT = (0, 1)
ONE = (1, 1)


def is_whole(thing):
    # To Python a truth is an int, too.
    return isinstance(thing, int) and not isinstance(thing, bool)


def is_fraction(thing):
    if not isinstance(thing, tuple) or len(thing) != 2:
        return False
    if not is_whole(thing[0]) or not is_whole(thing[1]):
        return False
    return thing[1] >= 1 and greatest_common(thing[0], thing[1]) == 1


def greatest_common(one, other):
    while other != 0:
        rest = one % other
        one = other
        other = rest
    return abs(one)


def fraction(top, bottom=1):
    if not is_whole(top) or not is_whole(bottom) or bottom == 0:
        raise NoNumber("a fraction is made of two whole numbers, the second not 0")
    shared = greatest_common(top, bottom)
    if bottom < 0:
        shared = -shared
    return (top // shared, bottom // shared)


def plus(one, other):
    return fraction(one[0] * other[1] + other[0] * one[1], one[1] * other[1])


def minus(one, other):
    return fraction(one[0] * other[1] - other[0] * one[1], one[1] * other[1])


def times(one, other):
    return fraction(one[0] * other[0], one[1] * other[1])


def over(one, other):
    if other[0] == 0:
        raise NoNumber("nothing is divided by nought")
    return fraction(one[0] * other[1], one[1] * other[0])


def under(one, other):
    # Bottoms are above nought, so both sides may be taken times both bottoms.
    return one[0] * other[1] < other[0] * one[1]


def total(some):
    so_far = NOUGHT
    for one in some:
        so_far = plus(so_far, one)
    return so_far
