"""The refusals of Ohmyard: each one a class of its own under OhmError, none under another."""


class OhmError(ValueError):
    pass


class NoNumber(OhmError):
    pass


class NoPoint(OhmError):
    pass


class NoSize(OhmError):
    pass


class NoRow(OhmError):
    pass


class NoWord(OhmError):
    pass


class NoName(OhmError):
    pass


class NoStreams(OhmError):
    pass


class NoRoad(OhmError):
    pass


class TooMany(OhmError):
    pass


# An error made in Python keeps by itself the very things that it was handed, and shows them as its words.
# So those that bear a list hand a copy to their base: else the asker's list would change the words later.


class Lame(OhmError):
    def __init__(self, multiples):
        OhmError.__init__(self, tuple(multiples))
        self.multiples = list(multiples)


class Ring(OhmError):
    def __init__(self, ring, total):
        OhmError.__init__(self, tuple(ring), total)
        self.ring = list(ring)
        self.total = total


class Floats(OhmError):
    def __init__(self, points):
        OhmError.__init__(self, tuple(points))
        self.points = list(points)


class Held(OhmError):
    def __init__(self, number):
        OhmError.__init__(self, number)
        self.number = number
