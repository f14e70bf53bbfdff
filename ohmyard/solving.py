"""Elimination with papers: what a matrix solves, by which multiples of its rows, and its weight.

All is reckoned in whole numbers, each row taken times its shared bottom: a fraction is brought to lowest terms only
when it is told. What a step divides by, the pivot ahead of it, always divides without rest, since every number that
stands in the rows is a weight of some of their numbers.
"""

from ohmyard.errors import Lame
from ohmyard.ratios import NOUGHT, fraction, greatest_common


def summed(multiples, matrix):
    rows = [in_wholes(row) for row in matrix]
    by_row = in_wholes([fraction(one[0], one[1] * row[1]) for one, row in zip(multiples, rows)])
    width = len(matrix[0]) if len(matrix) > 0 else 0
    tops = [sum([top * row[0][column] for top, row in zip(by_row[0], rows)]) for column in range(width)]
    return [fraction(top, by_row[1]) for top in tops]


def solved(matrix, right):
    many = len(matrix)
    rows = [in_wholes(row + [side])[0] for row, side in zip(matrix, right)]
    end = eliminated(rows, many)
    if end["rank"] < many:
        raise Lame(lame_multiples(matrix))
    return [fraction(row[many], end["pivot"]) for row in end["rows"]]


def multiples(matrix):
    many = len(matrix)
    end = eliminated(beside_unit(matrix), many)
    if end["rank"] < many:
        raise Lame(lame_multiples(matrix))
    return [over_pivot(row[many:], end["pivot"]) for row in end["rows"]]


def weight(matrix):
    rows = [in_wholes(row) for row in matrix]
    end = eliminated([row[0] for row in rows], len(matrix))
    if end["rank"] < len(matrix):
        return NOUGHT
    bottom = 1
    for row in rows:
        bottom = bottom * row[1]
    return fraction(end["sign"] * end["pivot"], bottom)


def reduced(matrix, count):
    # The first rows, so many, clear as many first columns of the rows behind them, and leave with these columns.
    rows = [in_wholes(row) for row in matrix]
    end = eliminated([row[0] for row in rows], count)
    return [over_pivot(left[count:], end["pivot"] * row[1]) for left, row in zip(end["rows"][count:], rows[count:])]


def in_wholes(some):
    bottom = 1
    for one in some:
        bottom = bottom // greatest_common(bottom, one[1]) * one[1]
    return ([one[0] * (bottom // one[1]) for one in some], bottom)


def beside_unit(matrix):
    rows = []
    for place, row in enumerate(matrix):
        whole = in_wholes(row)
        rows.append(whole[0] + [whole[1] if column == place else 0 for column in range(len(matrix))])
    return rows


def over_pivot(tops, pivot):
    return [fraction(top, pivot) for top in tops]


def eliminated(rows, width):
    rows = list(rows)
    rank = 0
    pivot = 1
    sign = 1
    for column in range(width):
        place = pivot_place(rows, rank, column)
        if place is None:
            continue
        if place != rank:
            lifted = rows[place]
            rows[place] = rows[rank]
            rows[rank] = lifted
            sign = -sign
        rows = cleared_rows(rows, rank, column, pivot)
        pivot = rows[rank][column]
        rank += 1
    return {"rows": rows, "rank": rank, "pivot": pivot, "sign": sign}


def pivot_place(rows, rank, column):
    for place in range(rank, len(rows)):
        if rows[place][column] != 0:
            return place
    return None


def cleared_rows(rows, rank, column, divisor):
    upper = rows[rank]
    return [row if place == rank else cleared(row, upper, column, divisor) for place, row in enumerate(rows)]


def cleared(row, upper, column, divisor):
    own = upper[column]
    other = row[column]
    return [(own * here - other * above) // divisor for here, above in zip(row, upper)]


def lame_multiples(matrix):
    many = len(matrix)
    end = eliminated(beside_unit(matrix), many)
    # The last row has noughts alone on the left, and on the right the multiples that made it so.
    found = end["rows"][many - 1][many:]
    first = [top for top in found if top != 0][0]
    return over_pivot(found, first)
