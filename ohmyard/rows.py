"""The rows of a net: pieces that resist, pushes that carry so much, holds that keep one point above another."""

from ohmyard.errors import NoWord
from ohmyard.ratios import NOUGHT, is_fraction, minus, over, under


class Row:
    def __init__(self, start, goal, size):
        self.start = start
        self.goal = goal
        self.size = size

    def told(self):
        return (self.word(), self.start, self.goal, self.size)

    def at(self, places):
        return row_of((self.word(), places[self.start], places[self.goal], self.size))


class Piece(Row):
    def word(self):
        return "piece"

    def joins(self):
        return True

    def turned(self):
        return Piece(self.goal, self.start, self.size)

    def stream(self, fall, held):
        return over(fall, self.size)


class Push(Row):
    def word(self):
        return "push"

    def joins(self):
        return False

    def turned(self):
        return Push(self.goal, self.start, minus(NOUGHT, self.size))

    def stream(self, fall, held):
        return self.size


class Hold(Row):
    def word(self):
        return "hold"

    def joins(self):
        return True

    def turned(self):
        return Hold(self.goal, self.start, minus(NOUGHT, self.size))

    def stream(self, fall, held):
        return held


def row_of(told):
    word = told[0]
    # Only a text is compared: what else is handed in may have a comparison of its own.
    if isinstance(word, str) and word == "piece":
        return Piece(told[1], told[2], told[3])
    if isinstance(word, str) and word == "push":
        return Push(told[1], told[2], told[3])
    if isinstance(word, str) and word == "hold":
        return Hold(told[1], told[2], told[3])
    raise NoWord("a row's word is piece, push or hold")


def fall_of(row, heights):
    return minus(heights[row.start], heights[row.goal])


def is_piece_size(thing):
    return is_fraction(thing) and under(NOUGHT, thing)
