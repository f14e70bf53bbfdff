"""Trees by which all points hang together, partings that hold two points apart, and their shares."""

from ohmyard.errors import TooMany
from ohmyard.hanging import joined
from ohmyard.heights import equations
from ohmyard.nets import refuse_holds, refuse_points
from ohmyard.ratios import ONE, over
from ohmyard.solving import weight

MOST_PIECES = 12


def share_of(net, numbers):
    rows = net.rows()
    share = ONE
    for number in numbers:
        share = over(share, rows[number].size)
    return share


def trees(net):
    refuse_holds(net)
    refuse_many_pieces(net)
    return [forest[0] for forest in forests(net, net.many() - 1)]


def partings(net, a, b):
    refuse_points([a, b], net.many())
    refuse_holds(net)
    refuse_many_pieces(net)
    return [forest[0] for forest in forests(net, net.many() - 2) if forest[1][a] != forest[1][b]]


def tree_sum(net):
    refuse_holds(net)
    return weight(equations(net)[0])


def refuse_many_pieces(net):
    if len(piece_numbers(net)) > MOST_PIECES:
        raise TooMany("trees and partings are listed of at most twelve pieces")


def piece_numbers(net):
    return [number for number, row in enumerate(net.rows()) if row.word() == "piece"]


def forests(net, size):
    # A set of pieces without a ring leaves one group fewer for each piece: so its size alone tells how many are left.
    found = [([], list(range(net.many())))]
    for turn in range(size):
        found = larger_forests(net, found)
    return found


def larger_forests(net, found):
    rows = net.rows()
    pieces = piece_numbers(net)
    larger = []
    for numbers, marks in found:
        for number in pieces:
            if is_behind(number, numbers) and marks[rows[number].start] != marks[rows[number].goal]:
                larger.append((numbers + [number], joined(marks, rows[number])))
    return larger


def is_behind(number, numbers):
    return len(numbers) == 0 or number > numbers[-1]
