"""Nets: points that are numbered from 0, and rows between them."""

from ohmyard.errors import Held, NoPoint, NoRow, NoSize, TooMany
from ohmyard.ratios import is_fraction, is_whole
from ohmyard.rows import is_piece_size, row_of

MOST_POINTS = 20
MOST_ROWS = 40


class Net:
    # The rows are kept as tuples, which nobody can change: so each row that is told is made anew of one.

    def __init__(self, many):
        if not is_whole(many) or many < 1 or many > MOST_POINTS:
            raise NoPoint("a net has 1 to 20 points")
        self.point_count = many
        self.kept = []

    def many(self):
        return self.point_count

    def count(self):
        return len(self.kept)

    def add(self, row):
        told = row.told()
        refuse_points([told[1], told[2]], self.point_count)
        refuse_size(told[0], told[3])
        if len(self.kept) >= MOST_ROWS:
            raise TooMany("a net has at most forty rows")
        self.kept.append(told)
        return len(self.kept) - 1

    def change(self, k, size):
        refuse_number(k, len(self.kept))
        old = self.kept[k]
        refuse_size(old[0], size)
        self.kept[k] = (old[0], old[1], old[2], size)

    def rows(self):
        return [row_of(told) for told in self.kept]

    def told(self):
        return list(self.kept)

    def copy(self):
        made = Net(self.point_count)
        made.kept = list(self.kept)
        return made


def is_number_below(thing, bound):
    return is_whole(thing) and thing >= 0 and thing < bound


def refuse_points(some, many):
    if not all([is_number_below(point, many) for point in some]):
        raise NoPoint("the net has no such point")


def refuse_number(k, count):
    if not is_number_below(k, count):
        raise NoRow("the net has no row of this number")


def refuse_size(word, size):
    if not is_fraction(size):
        raise NoSize("a size is a fraction")
    if word == "piece" and not is_piece_size(size):
        raise NoSize("a piece's size is above nought")


def refuse_holds(net):
    for number, row in enumerate(net.rows()):
        if row.word() == "hold":
            raise Held(number)
