"""The equations of a net, and its answer: the heights of its points and the streams of its rows."""

from ohmyard.errors import Floats, Ring
from ohmyard.hanging import floating, ring_sum, rings
from ohmyard.nets import refuse_points
from ohmyard.ratios import NOUGHT, ONE, minus, over, plus
from ohmyard.rows import fall_of
from ohmyard.solving import multiples, solved


def equations(net):
    rows = net.rows()
    many = net.many()
    width = many + len([row for row in rows if row.word() == "hold"])
    matrix = [[NOUGHT] * width for line in range(width)]
    right = [NOUGHT] * width
    held = many
    for row in rows:
        if row.word() == "piece":
            enter_piece(matrix, row)
        elif row.word() == "push":
            enter_push(right, row)
        else:
            enter_hold(matrix, right, row, held)
            held += 1
    # The base had a row and a column so far, so that a row that meets it is entered like any other.
    return ([line[1:] for line in matrix[1:]], right[1:])


def enter_piece(matrix, row):
    share = over(ONE, row.size)
    enter_stream(matrix, row, row.start, share)
    enter_stream(matrix, row, row.goal, minus(NOUGHT, share))


def enter_push(right, row):
    raise_at(right, row.start, minus(NOUGHT, row.size))
    raise_at(right, row.goal, row.size)


def enter_hold(matrix, right, row, column):
    enter_stream(matrix, row, column, ONE)
    raise_at(matrix[column], row.start, ONE)
    raise_at(matrix[column], row.goal, minus(NOUGHT, ONE))
    right[column] = row.size


def enter_stream(matrix, row, column, amount):
    raise_at(matrix[row.start], column, amount)
    raise_at(matrix[row.goal], column, minus(NOUGHT, amount))


def raise_at(line, column, amount):
    line[column] = plus(line[column], amount)


def refuse_unanswered(net):
    held = rings(net, ["hold"])
    if len(held) > 0:
        raise Ring(held[0], ring_sum(net, held[0]))
    points = floating(net)
    if len(points) > 0:
        raise Floats(points)


class Answer:
    def __init__(self, net):
        refuse_unanswered(net)
        both = equations(net)
        known = solved(both[0], both[1])
        inner = net.many() - 1
        self.lines = both[0]
        self.levels = [NOUGHT] + known[:inner]
        self.flows = flows_of(net.rows(), self.levels, known[inner:])

    def heights(self):
        return list(self.levels)

    def streams(self):
        return list(self.flows)

    def fall(self, a, b):
        refuse_points([a, b], len(self.levels))
        return minus(self.levels[a], self.levels[b])

    def paper(self):
        return multiples(self.lines)


def flows_of(rows, levels, held):
    flows = []
    taken = 0
    for row in rows:
        fall = fall_of(row, levels)
        if row.word() == "hold":
            flows.append(row.stream(fall, held[taken]))
            taken += 1
        else:
            flows.append(row.stream(fall, NOUGHT))
    return flows
