"""Pieces in a row, side by side, in a star and in a mesh, told as other pieces that look the same from outside."""

from ohmyard.errors import NoSize
from ohmyard.ratios import ONE, over, times, total
from ohmyard.rows import is_piece_size


def in_row(sizes):
    refuse_sizes(sizes)
    return total(sizes)


def side_by_side(sizes):
    refuse_sizes(sizes)
    return over(ONE, shares_total(sizes))


def mesh_of(legs):
    refuse_sizes(legs)
    shares = shares_total(legs)
    mesh = []
    for i, leg in enumerate(legs):
        for j in range(i + 1, len(legs)):
            mesh.append((i, j, times(times(leg, legs[j]), shares)))
    return mesh


def star_of(sides):
    refuse_sizes(sides)
    if len(sides) != 3:
        raise NoSize("a mesh of three points has three sizes")
    around = total(sides)
    # Side k - 1 and side k meet at point k; at point 0 the last one and the first.
    return [over(times(sides[k - 1], sides[k]), around) for k in range(3)]


def refuse_sizes(sizes):
    if not isinstance(sizes, list) or len(sizes) == 0 or not all([is_piece_size(size) for size in sizes]):
        raise NoSize("sizes are a list of fractions above nought, one at least")


def shares_total(sizes):
    return total([over(ONE, size) for size in sizes])
