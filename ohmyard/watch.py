"""One row changed: the rows that feel it, the shape of what it does, and an answer kept through changes."""

from ohmyard.between import heights_by, pushed_heights
from ohmyard.hanging import rings
from ohmyard.heights import Answer, equations, refuse_unanswered
from ohmyard.nets import refuse_number
from ohmyard.ratios import NOUGHT, ONE, minus, over, plus, times
from ohmyard.rows import fall_of


def block_of(net, k):
    refuse_number(k, net.count())
    # Two rows lie on a common ring just where a chain of these rings leads from one to the other, each
    # having a row in common with the ring ahead of it.
    marks = list(range(net.count()))
    for ring in rings(net):
        met = [marks[number] for number, way in ring]
        marks = [met[0] if mark in met else mark for mark in marks]
    return [number for number, mark in enumerate(marks) if mark == marks[k]]


def shape_of(net, k):
    refuse_number(k, net.count())
    refuse_unanswered(net)
    row = net.rows()[k]
    if row.word() == "hold":
        return held_heights(net, k)
    return pushed_heights(net, row.goal, row.start)


def held_heights(net, k):
    matrix = equations(net)[0]
    right = [NOUGHT] * len(matrix)
    ahead = [row for row in net.rows()[:k] if row.word() == "hold"]
    right[net.many() - 1 + len(ahead)] = ONE
    return heights_by(net, matrix, right)


class Watch:
    def __init__(self, net):
        self.current = Answer(net)
        self.followed = net.copy()

    def change(self, k, size):
        changed = self.followed.copy()
        changed.change(k, size)
        factor = factor_of(self.followed, self.current, k, size)
        self.current = Answer(changed)
        self.followed = changed
        return factor

    def heights(self):
        return self.current.heights()

    def streams(self):
        return self.current.streams()

    def paper(self):
        return self.current.paper()

    def net(self):
        return self.followed.copy()


def factor_of(net, answer, k, size):
    row = net.rows()[k]
    if row.word() == "push":
        return minus(row.size, size)
    if row.word() == "hold":
        return minus(size, row.size)
    more = minus(over(ONE, size), over(ONE, row.size))
    fall = fall_of(row, answer.heights())
    along_shape = fall_of(row, shape_of(net, k))
    return over(minus(NOUGHT, times(more, fall)), plus(ONE, times(more, along_shape)))
