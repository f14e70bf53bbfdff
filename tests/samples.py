"""Nets for the tests: written out, and drawn alike each time."""

import random
from fractions import Fraction

from ohmyard.nets import Net
from ohmyard.rows import row_of


def told(value):
    value = Fraction(value)
    return (value.numerator, value.denominator)


def net_of(many, rows):
    net = Net(many)
    for word, start, goal, size in rows:
        net.add(row_of((word, start, goal, size if isinstance(size, tuple) else (size, 1))))
    return net


# A hold of 12 from point 1 down to the base, two pieces in a row behind it, a piece beside, a push into the middle.
BRIDGE = [
    ("hold", 1, 0, 12), ("piece", 1, 2, 2), ("piece", 2, 0, 4), ("push", 0, 2, 3), ("piece", 1, 0, 6),
    ("piece", 2, 2, 5), ("push", 1, 1, 7),
]


class Nets:
    def __init__(self, seed):
        self.chance = random.Random(seed)

    def number(self, most=6):
        return told(Fraction(self.chance.randint(-most, most), self.chance.randint(1, most)))

    def above_nought(self, most=6):
        return told(Fraction(self.chance.randint(1, most), self.chance.randint(1, most)))

    def row(self, word, start, goal, most=6):
        if self.chance.randrange(2):
            start, goal = goal, start
        return (word, start, goal, self.above_nought(most) if word == "piece" else self.number(most))

    def any_net(self, many, count, words=("piece", "push", "hold")):
        chance = self.chance
        rows = [self.row(chance.choice(words), chance.randrange(many), chance.randrange(many)) for row in range(count)]
        return net_of(many, rows)

    def answered(self, many, more, most=6):
        """All points hang together; the holds lie in one tree, so they make no ring."""
        chance = self.chance
        points = list(range(1, many))
        chance.shuffle(points)
        rows = []
        for place, point in enumerate(points):
            near = chance.choice([0] + points[:place])
            rows.append(self.row(chance.choice(["piece", "piece", "hold"]), near, point, most))
        for row in range(more):
            rows.append(self.row(chance.choice(["piece", "push"]), chance.randrange(many), chance.randrange(many), most))
        chance.shuffle(rows)
        return net_of(many, rows)

    def many_answered(self):
        found = [self.answered(many, more) for many in range(1, 8) for more in [0, 2, 6] for turn in range(3)]
        found += [self.answered(12, 10), self.answered(20, 21), self.answered(4, 6, 10 ** 40)]
        return found

    def serving(self, net, streams, rings):
        """Streams that serve as well: these, with some amount more round each ring."""
        streams = [Fraction(*one) for one in streams]
        for ring in rings:
            amount = Fraction(*self.number())
            for number, way in ring:
                streams[number] += way * amount
        return [told(one) for one in streams]


def solution(matrix, right):
    """The unknowns of as many equations, by Fractions: written apart from the program, to hold it against."""
    lines = [[Fraction(one) for one in row] + [Fraction(side)] for row, side in zip(matrix, right)]
    for column in range(len(lines)):
        place = next(place for place in range(column, len(lines)) if lines[place][column] != 0)
        lines[column], lines[place] = lines[place], lines[column]
        upper = [one / lines[column][column] for one in lines[column]]
        lines = [upper if place == column else [one - line[column] * above for one, above in zip(line, upper)]
                 for place, line in enumerate(lines)]
    return [line[-1] for line in lines]


def rests_at(net, heights):
    """What goes from each point less what comes to it, in a net without holds, by heights that are Fractions."""
    rests = [Fraction(0)] * net.many()
    for word, start, goal, size in net.told():
        stream = (heights[start] - heights[goal]) / Fraction(*size) if word == "piece" else Fraction(*size)
        rests[start] += stream
        rests[goal] -= stream
    return rests


def levelled(net, ends, heights):
    """The heights of all points, by Fractions, where at each point that is no end as much goes as comes."""
    given = dict(zip(ends, heights))
    inner = [point for point in range(net.many()) if point not in given]
    matrix = [[Fraction(0)] * len(inner) for point in inner]
    for place, point in enumerate(inner):
        raised = [Fraction(0)] * net.many()
        raised[point] = Fraction(1)
        pieces = net_of(net.many(), [row for row in net.told() if row[0] == "piece"])
        for line, other in enumerate(inner):
            matrix[line][place] = rests_at(pieces, raised)[other]
    rests = rests_at(net, [given.get(point, Fraction(0)) for point in range(net.many())])
    known = dict(zip(inner, solution(matrix, [-rests[point] for point in inner])))
    return [given[point] if point in given else known[point] for point in range(net.many())]
