"""Plans: the points, by their names, and the rows of a yard or of one of its parts, with all that is put in."""

from ohmyard.nets import MOST_POINTS, MOST_ROWS, Net, refuse_number
from ohmyard.rows import row_of


class Plan:
    def __init__(self, labels, end_count):
        # The first points are the ends, of which a yard itself has none.
        self.labels = list(labels)
        self.end_count = end_count
        self.entries = []
        self.put_names = []

    def copy(self):
        made = Plan(self.labels, self.end_count)
        made.entries = list(self.entries)
        made.put_names = list(self.put_names)
        return made

    def place_of(self, label):
        # A point comes where it is named first.
        if label not in self.labels:
            self.labels.append(label)
        return self.labels.index(label)

    def enter(self, word, start, goal, size):
        begin = self.place_of(start)
        end = self.place_of(goal)
        self.entries.append((word, begin, end, size))

    def put_in(self, name, part, points):
        inner = [name + "." + label for label in part.labels[part.end_count:]]
        spots = []
        for label in points + inner:
            spots.append(self.place_of(label))
        self.entries.extend([row_of(entry).at(spots).told() for entry in part.entries])
        self.put_names.append(name)

    def is_overfull(self):
        return len(self.labels) > MOST_POINTS or len(self.entries) > MOST_ROWS

    def net(self):
        made = Net(len(self.labels))
        for entry in self.entries:
            made.add(row_of(entry))
        return made

    def change(self, k, size):
        # A plan without points makes no net, but has no row either.
        refuse_number(k, len(self.entries))
        changed = self.net()
        changed.change(k, size)
        self.entries = changed.told()
