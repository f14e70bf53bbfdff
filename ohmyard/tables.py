"""Tables: how a net without holds looks from some of its points, its ends, whatever is pushed in there."""

from ohmyard.errors import Floats, NoPoint
from ohmyard.hanging import groups
from ohmyard.heights import enter_piece, enter_push
from ohmyard.nets import Net, refuse_holds, refuse_points
from ohmyard.ratios import NOUGHT, ONE, is_whole, minus, over, times, total
from ohmyard.rows import Piece, Push
from ohmyard.solving import reduced, solved


class Table:
    def __init__(self, ends, matrix, comes):
        self.places = list(ends)
        self.lines = [list(line) for line in matrix]
        self.arrivals = list(comes)

    def ends(self):
        return list(self.places)

    def matrix(self):
        return [list(line) for line in self.lines]

    def comes(self):
        return list(self.arrivals)

    def brought(self, heights):
        return [minus(along(line, heights), arrival) for line, arrival in zip(self.lines, self.arrivals)]

    def taken(self, point):
        # Only a whole number is looked for: to Python a truth is among the ends where 0 or 1 is.
        if not is_whole(point) or point not in self.places or len(self.places) == 1:
            raise NoPoint("an end is taken away of several")
        place = self.places.index(point)
        if self.lines[place][place] == NOUGHT:
            raise Floats([point])
        return narrowed(self, [end for end in self.places if end != point])

    def net(self):
        made = Net(len(self.places))
        for i, line in enumerate(self.lines):
            for j in range(i + 1, len(line)):
                if line[j] != NOUGHT:
                    made.add(Piece(i, j, over(ONE, minus(NOUGHT, line[j]))))
        for i, arrival in enumerate(self.arrivals):
            if i > 0 and arrival != NOUGHT:
                made.add(Push(0, i, arrival))
        return made


def along(line, heights):
    return total([times(number, height) for number, height in zip(line, heights)])


def narrowed(table, ends):
    inner = [end for end in table.places if end not in ends]
    order = [table.places.index(point) for point in inner + ends]
    # What comes stands as a column more, so that it is reckoned along with the matrix.
    lines = [line + [table.arrivals[place]] for line, place in zip(picked(table.lines, order), order)]
    left = reduced(lines, len(inner))
    return Table(ends, [line[:-1] for line in left], [line[-1] for line in left])


def picked(matrix, places):
    return [[matrix[line][column] for column in places] for line in places]


def table_of(net, ends):
    refuse_ends(net, ends)
    return narrowed(table_of_all(net), ends)


def inner_heights(net, ends, heights):
    refuse_ends(net, ends)
    inner = [point for point in range(net.many()) if point not in ends]
    levels = [NOUGHT] * net.many()
    for point, height in zip(ends, heights):
        levels[point] = height
    table = table_of_all(net)
    # So far the inner points stand at nought: what is lacking there, their own heights have to make up for.
    lacking = table.brought(levels)
    right = [minus(NOUGHT, lacking[point]) for point in inner]
    for point, height in zip(inner, solved(picked(table.lines, inner), right)):
        levels[point] = height
    return levels


def refuse_ends(net, ends):
    if not isinstance(ends, list) or len(ends) == 0:
        raise NoPoint("the ends are a list of points, one at least")
    refuse_points(ends, net.many())
    if len(set(ends)) < len(ends):
        raise NoPoint("each end is told once")
    refuse_holds(net)
    loose = loose_points(net, ends)
    if len(loose) > 0:
        raise Floats(loose)


def loose_points(net, ends):
    loose = []
    for group in groups(net):
        if not any([point in ends for point in group]):
            loose.extend(group)
    return sorted(loose)


def table_of_all(net):
    many = net.many()
    matrix = [[NOUGHT] * many for point in range(many)]
    comes = [NOUGHT] * many
    for row in net.rows():
        if row.word() == "piece":
            enter_piece(matrix, row)
        else:
            enter_push(comes, row)
    return Table(list(range(many)), matrix, comes)
