"""All that lies between two points, told as the size of one piece."""

from ohmyard.heights import enter_push, equations, refuse_unanswered
from ohmyard.nets import refuse_points
from ohmyard.ratios import NOUGHT, ONE, minus
from ohmyard.rows import Push
from ohmyard.solving import solved


def between(net, a, b):
    refuse_points([a, b], net.many())
    refuse_unanswered(net)
    heights = pushed_heights(net, b, a)
    return minus(heights[a], heights[b])


def pushed_heights(net, start, goal):
    # The push is entered into the right sides alone, so that no row is added to a net that is full.
    matrix = equations(net)[0]
    right = [NOUGHT] * (len(matrix) + 1)
    enter_push(right, Push(start, goal, ONE))
    return heights_by(net, matrix, right[1:])


def heights_by(net, matrix, right):
    return [NOUGHT] + solved(matrix, right)[:net.many() - 1]
