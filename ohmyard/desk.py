"""The desk: it is told a yard's rows, questions and changes, and answers each by a text."""

from ohmyard.between import between
from ohmyard.errors import NoName, NoRow
from ohmyard.figures import are_figures, read, show
from ohmyard.hanging import floating
from ohmyard.heights import Answer
from ohmyard.tables import table_of
from ohmyard.waste import waste
from ohmyard.yards import YARD_WORDS, Yard, words_of

WORD_COUNTS = {"height": 2, "fall": 3, "between": 3, "waste": 1, "stream": 2, "change": 3, "floats": 1}
MOST_NUMBER_FIGURES = 2


class Desk:
    def __init__(self):
        self.yard = Yard()

    def say(self, row):
        words = words_of(row)
        if words[0] in YARD_WORDS:
            self.yard.tell(row)
            return "ok"
        refuse_question(words)
        if words[0] == "change":
            number = number_of(self.yard, words[1])
            self.yard.change(number, read(words[2]))
            return "ok"
        return answered(self.yard, words)


def refuse_question(words):
    if not is_question(words[0], len(words)):
        raise NoRow("the desk takes no row of this form")


def is_question(word, count):
    if word == "smaller":
        return count >= 2
    return word in WORD_COUNTS and count == WORD_COUNTS[word]


def answered(yard, words):
    if words[0] == "stream":
        return stream_text(yard, words[1])
    if words[0] == "height":
        return height_text(yard, words[1])
    if words[0] == "fall":
        return fall_text(yard, words[1:])
    if words[0] == "between":
        return between_text(yard, words[1:])
    if words[0] == "waste":
        return waste_text(yard)
    if words[0] == "floats":
        return floats_text(yard)
    return smaller_text(yard, words[1:])


def stream_text(yard, figures):
    number = number_of(yard, figures)
    return show(Answer(yard.net()).streams()[number])


def height_text(yard, name):
    net = yard.net()
    place = place_in(yard, name)
    return show(Answer(net).heights()[place])


def fall_text(yard, names):
    net = yard.net()
    places = places_in(yard, names)
    return show(Answer(net).fall(places[0], places[1]))


def between_text(yard, names):
    net = yard.net()
    places = places_in(yard, names)
    return show(between(net, places[0], places[1]))


def waste_text(yard):
    net = yard.net()
    return show(waste(net, Answer(net).streams()))


def floats_text(yard):
    net = yard.net()
    names = yard.names()
    return listed([names[point] for point in floating(net)], " ")


def smaller_text(yard, names):
    net = yard.net()
    places = places_in(yard, names)
    if len(set(places)) < len(places):
        raise NoName("each point is told once")
    smaller = table_of(net, places).net()
    return listed([row_text(row.at(names)) for row in smaller.rows()], "; ")


def row_text(row):
    return " ".join([row.word(), row.start, row.goal, show(row.size)])


def listed(texts, between_them):
    if len(texts) == 0:
        return "none"
    return between_them.join(texts)


def places_in(yard, names):
    return [place_in(yard, name) for name in names]


def place_in(yard, name):
    labels = yard.names()
    if name not in labels:
        raise NoName("the yard's net has no point of this name")
    return labels.index(name)


def number_of(yard, figures):
    if len(figures) > MOST_NUMBER_FIGURES or not are_figures(figures):
        raise NoRow("a row's number is one or two figures")
    number = int(figures)
    if str(number) != figures or number >= yard.count():
        raise NoRow("the yard's net has no row of this number")
    return number
