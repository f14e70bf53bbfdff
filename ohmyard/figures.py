"""Fractions as texts: written TOP or TOP/BOTTOM, and read from what is so written."""

from ohmyard.errors import NoNumber
from ohmyard.ratios import fraction

FIGURES = "0123456789"
MOST_FIGURES = 200


def show(one):
    if one[1] == 1:
        return str(one[0])
    return str(one[0]) + "/" + str(one[1])


def read(text):
    if not isinstance(text, str):
        raise NoNumber("a fraction is read from a text")
    parts = text.partition("/")
    above = parts[0]
    below = parts[2] if parts[1] == "/" else "1"
    if not are_figures(without_sign(above)) or not are_figures(below):
        raise NoNumber("a fraction is written TOP or TOP/BOTTOM, by at most two hundred figures each")
    one = fraction(int(above), int(below))
    # A fraction is written in one way alone: whatever else has its value (2/4, 3/1, -0, 01) shows otherwise.
    if show(one) != text:
        raise NoNumber("a fraction is written in lowest terms, without noughts ahead")
    return one


def without_sign(text):
    if text.startswith("-"):
        return text[1:]
    return text


def are_figures(text):
    if len(text) < 1 or len(text) > MOST_FIGURES:
        return False
    # Not isdigit: it takes the figures of other scripts, too.
    return all([sign in FIGURES for sign in text])
