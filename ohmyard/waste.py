"""Streams and heights that are told from outside: whether they will do, what they waste, how they differ."""

from ohmyard.errors import NoStreams
from ohmyard.hanging import rings
from ohmyard.heights import Answer
from ohmyard.ratios import NOUGHT, fraction, is_fraction, minus, over, plus, times, total
from ohmyard.rows import fall_of


def serves(net, streams):
    if not are_fractions(streams, net.count()):
        return False
    rows = net.rows()
    for row, stream in zip(rows, streams):
        if row.word() == "push" and stream != row.size:
            return False
    return all([rest == NOUGHT for rest in rests_of(rows, streams, net.many())])


def keeps(net, heights):
    if not are_fractions(heights, net.many()):
        return False
    return all([fall_of(row, heights) == row.size for row in rows_of(net, "hold")])


def are_fractions(some, many):
    return isinstance(some, list) and len(some) == many and all([is_fraction(one) for one in some])


def rows_of(net, word):
    return [row for row in net.rows() if row.word() == word]


def rests_of(rows, streams, many):
    rests = [NOUGHT] * many
    for row, stream in zip(rows, streams):
        rests[row.start] = plus(rests[row.start], stream)
        rests[row.goal] = minus(rests[row.goal], stream)
    return rests


def waste(net, streams):
    return total([times(row.size, times(stream, stream)) for row, stream in with_streams(net, "piece", streams)])


def with_streams(net, word, streams):
    return [(row, stream) for row, stream in zip(net.rows(), streams) if row.word() == word]


def price(net, streams):
    return plus(waste(net, streams), twice(held_total(net, streams)))


def twice(one):
    return times(fraction(2), one)


def held_total(net, streams):
    return total([times(row.size, stream) for row, stream in with_streams(net, "hold", streams)])


def strain(net, heights):
    falls = [(row, fall_of(row, heights)) for row in rows_of(net, "piece")]
    resisted = total([over(times(fall, fall), row.size) for row, fall in falls])
    return minus(resisted, twice(pushed_total(net, heights)))


def pushed_total(net, heights):
    # A push lifts what it carries from its start to its goal: by nought less its fall.
    return minus(NOUGHT, total([times(row.size, fall_of(row, heights)) for row in rows_of(net, "push")]))


def gap(net, streams, heights):
    so_far = NOUGHT
    for row, stream in with_streams(net, "piece", streams):
        beside = minus(stream, over(fall_of(row, heights), row.size))
        so_far = plus(so_far, times(row.size, times(beside, beside)))
    return so_far


def led(streams, ring, amount):
    changed = list(streams)
    for number, way in ring:
        changed[number] = plus(changed[number], times(fraction(way), amount))
    return changed


def amounts(net, streams):
    if not serves(net, streams):
        raise NoStreams("these streams don't serve the net")
    own = Answer(net).streams()
    # The row that closes a ring lies on no other ring, so it alone tells how much is led round.
    closing = [ring[0][0] for ring in rings(net)]
    return [minus(streams[number], own[number]) for number in closing]


def supplied(net):
    answer = Answer(net)
    return minus(pushed_total(net, answer.heights()), held_total(net, answer.streams()))
