"""Yards: nets that are told by rows of text, with parts within parts."""

from ohmyard.errors import NoName, NoRow, TooMany
from ohmyard.figures import read
from ohmyard.nets import refuse_size
from ohmyard.plans import Plan

LETTERS = "abcdefghijklmnopqrstuvwxyz"
MOST_LETTERS = 8
MOST_PARTS = 20
ROW_WORDS = ("piece", "push", "hold")
YARD_WORDS = ("piece", "push", "hold", "part", "put", "done")


def is_name(thing):
    if not isinstance(thing, str) or len(thing) < 1 or len(thing) > MOST_LETTERS:
        return False
    # Not islower: it takes the letters of other scripts, too.
    return all([sign in LETTERS for sign in thing])


class Yard:
    # Each row is entered into a copy, which is kept only when nothing is refused.

    def __init__(self):
        self.ground = Plan([], 0)
        self.parts = {}
        self.opened = None
        self.opened_plan = None

    def tell(self, row):
        words = words_of(row)
        refuse_form(words)
        if words[0] == "part":
            self.begin_part(words[1], words[2:])
        elif words[0] == "done":
            self.end_part()
        elif words[0] == "put":
            self.enter_put(words[1], words[2], words[3:])
        else:
            self.enter_row(words)

    def begin_part(self, name, ends):
        if self.opened is not None:
            raise NoRow("no part is opened within a part")
        refuse_names([name] + ends)
        if len(set(ends)) < len(ends):
            raise NoName("each end of a part is told once")
        if name in self.parts:
            raise NoName("a part of this name was told before")
        if len(self.parts) >= MOST_PARTS:
            raise TooMany("a yard has at most twenty parts")
        plan = Plan(ends, len(ends))
        refuse_overfull(plan)
        self.opened = name
        self.opened_plan = plan

    def end_part(self):
        if self.opened is None:
            raise NoRow("no part is open")
        self.parts[self.opened] = self.opened_plan
        self.opened = None
        self.opened_plan = None

    def enter_put(self, name, part_name, points):
        refuse_names([name, part_name] + points)
        plan = self.copy_of_told()
        if name in plan.put_names:
            raise NoName("a put of this name was told before among these rows")
        if part_name not in self.parts:
            raise NoName("no closed part has this name")
        part = self.parts[part_name]
        if len(points) != part.end_count:
            raise NoName("a part is put in at as many points as it has ends")
        plan.put_in(name, part, points)
        self.keep(plan)

    def enter_row(self, words):
        refuse_names(words[1:3])
        size = read(words[3])
        refuse_size(words[0], size)
        plan = self.copy_of_told()
        plan.enter(words[0], words[1], words[2], size)
        self.keep(plan)

    def copy_of_told(self):
        if self.opened is None:
            return self.ground.copy()
        return self.opened_plan.copy()

    def keep(self, plan):
        refuse_overfull(plan)
        if self.opened is None:
            self.ground = plan
        else:
            self.opened_plan = plan

    def names(self):
        return list(self.ground.labels)

    def count(self):
        return len(self.ground.entries)

    def net(self):
        return self.ground.net()

    def change(self, k, size):
        self.ground.change(k, size)


def yard_of(text):
    if not isinstance(text, str):
        raise NoRow("a yard is told by a text")
    yard = Yard()
    if text != "":
        for row in text.split("\n"):
            yard.tell(row)
    return yard


def words_of(row):
    if not isinstance(row, str):
        raise NoRow("a row is a text")
    return row.split(" ")


def refuse_form(words):
    if not has_form(words[0], len(words)):
        raise NoRow("a yard takes no row of this form")


def has_form(word, count):
    if word in ROW_WORDS:
        return count == 4
    if word == "part":
        return count >= 3
    if word == "put":
        return count >= 4
    return word == "done" and count == 1


def refuse_names(words):
    if not all([is_name(word) for word in words]):
        raise NoName("a name is one to eight small letters")


def refuse_overfull(plan):
    if plan.is_overfull():
        raise TooMany("there are at most twenty points and forty rows, with all that is put in")
