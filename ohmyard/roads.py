"""Roads along rows that join, and the least sum of their pieces' sizes."""

from ohmyard.errors import NoRoad
from ohmyard.hanging import steps_from
from ohmyard.nets import refuse_points
from ohmyard.ratios import NOUGHT, plus, total, under


def distances(net, a):
    refuse_points([a], net.many())
    reached = least_from(net, a)
    return [reached[point][0] if point in reached else None for point in range(net.many())]


def least_road(net, a, b):
    refuse_points([a, b], net.many())
    reached = least_from(net, a)
    if b not in reached:
        raise NoRoad("no road leads from the one point to the other")
    return reached[b][1]


def road_sum(net, road):
    rows = net.rows()
    return total([length_of(rows[number]) for number, way in road])


def length_of(row):
    return row.size if row.word() == "piece" else NOUGHT


def least_from(net, a):
    rows = net.rows()
    joining = [number for number, row in enumerate(rows) if row.joins()]
    waiting = {a: (NOUGHT, [])}
    settled = {}
    while len(waiting) > 0:
        point = nearest(waiting)
        here = waiting.pop(point)
        settled[point] = here
        for step, end in steps_from(rows, joining, point):
            length = plus(here[0], length_of(rows[step[0]]))
            if end not in settled and (end not in waiting or under(length, waiting[end][0])):
                waiting[end] = (length, here[1] + [step])
    return settled


def nearest(waiting):
    best = None
    for point in waiting:
        if best is None or under(waiting[point][0], waiting[best][0]):
            best = point
    return best
