"""Which points hang together, which float, and the rings that rows close."""

from ohmyard.ratios import fraction, times, total

JOINING_WORDS = ("piece", "hold")


def groups(net):
    found = {}
    for point, mark in enumerate(marks_of(net)):
        found.setdefault(mark, []).append(point)
    return list(found.values())


def floating(net):
    marks = marks_of(net)
    return [point for point, mark in enumerate(marks) if mark != marks[0]]


def marks_of(net):
    # Two points have the same mark just where they hang together.
    marks = list(range(net.many()))
    for row in net.rows():
        if row.joins():
            marks = joined(marks, row)
    return marks


def joined(marks, row):
    kept = marks[row.start]
    lost = marks[row.goal]
    return [kept if mark == lost else mark for mark in marks]


def rings(net, words=None):
    wanted = JOINING_WORDS if words is None else words
    rows = net.rows()
    branches = []
    found = []
    for number, row in enumerate(rows):
        if row.word() in wanted:
            back = way_along(rows, branches, row.goal, row.start)
            if back is None:
                branches.append(number)
            else:
                found.append([(number, 1)] + back)
    return found


def way_along(rows, numbers, begin, end):
    # The rows of these numbers close no ring, so whatever way is found first is the only one.
    ways = {begin: []}
    waiting = [begin]
    while len(waiting) > 0:
        point = waiting.pop()
        for step in steps_from(rows, numbers, point):
            if step[1] not in ways:
                ways[step[1]] = ways[point] + [step[0]]
                waiting.append(step[1])
    return ways.get(end)


def steps_from(rows, numbers, point):
    steps = []
    for number in numbers:
        row = rows[number]
        if row.start == point:
            steps.append(((number, 1), row.goal))
        elif row.goal == point:
            steps.append(((number, -1), row.start))
    return steps


def ring_sum(net, ring):
    rows = net.rows()
    return total([times(fraction(way), rows[number].size) for number, way in ring])
