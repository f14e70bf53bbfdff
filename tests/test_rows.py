"""Rows: [8], [9], and of [2] and [3] what speaks of them."""

import unittest

from ohmyard.errors import NoWord, OhmError
from ohmyard.ratios import is_fraction
from ohmyard.rows import Hold, Piece, Push, Row, row_of

CLASSES = [("piece", Piece), ("push", Push), ("hold", Hold)]
SIZES = [(1, 1), (5, 2), (1, 3), (7, 1), (10 ** 60 + 1, 10 ** 60)]

NO_WORDS = [
    "", " ", "Piece", "PIECE", "piece ", " piece", "pieces", "piec", "piece\n", "push ", "Push", "pushs", "pus", "hold\n",
    "Hold", "holds", "hol", "held", "row", "part", "put", "done", "p", "h", "pi\u0435ce", "piecepush", "piece push hold",
    0, 1, 2, -1, 3, 1.5, None, True, False, (), ("piece",), [], ["piece"], {}, {"piece": 1}, {"piece"}, b"piece",
    object(), Piece, Row, Piece(0, 1, (1, 1)),
]


class AlwaysEqual:
    def __eq__(self, other):
        return True


class NeverCompared:
    def __eq__(self, other):
        raise RuntimeError("compared")


def every_row():
    rows = []
    for word, made in CLASSES:
        for start, goal in [(0, 1), (1, 0), (3, 7), (2, 2), (0, 0)]:
            for size in SIZES + ([] if word == "piece" else [(0, 1), (-4, 1), (-2, 3)]):
                rows.append((word, made, start, goal, size))
    return rows


class TheClasses(unittest.TestCase):
    def test_three_under_one_and_none_under_another(self):
        for word, made in CLASSES:
            self.assertTrue(issubclass(made, Row))
            self.assertIsNot(made, Row)
            for another_word, another in CLASSES:
                self.assertEqual(issubclass(made, another), made is another)

    def test_objects_are_of_their_own_class_alone(self):
        for word, made in CLASSES:
            row = made(0, 1, (1, 1))
            self.assertIs(type(row), made)
            self.assertIsInstance(row, Row)
            for another_word, another in CLASSES:
                self.assertEqual(isinstance(row, another), another_word == word)

    def test_fields(self):
        for word, made, start, goal, size in every_row():
            row = made(start, goal, size)
            self.assertEqual((row.start, row.goal, row.size), (start, goal, size))

    def test_by_the_names_of_the_arguments(self):
        for word, made in CLASSES:
            row = made(size=(1, 2), goal=4, start=3)
            self.assertEqual((row.start, row.goal, row.size), (3, 4, (1, 2)))

    def test_what_is_handed_in_is_not_looked_at(self):
        for word, made in CLASSES:
            for start, goal, size in [(-1, 99, (0, 1)), (None, True, (2, 4)), ("a", "b", None), (0, 1, (-1, 1))]:
                row = made(start, goal, size)
                self.assertEqual((row.start, row.goal, row.size), (start, goal, size))
                self.assertEqual(row.told(), (word, start, goal, size))

    def test_word(self):
        for word, made, start, goal, size in every_row():
            self.assertEqual(made(start, goal, size).word(), word)

    def test_joins(self):
        for start, goal in [(0, 1), (1, 0), (2, 2)]:
            self.assertIs(Piece(start, goal, (1, 1)).joins(), True)
            self.assertIs(Hold(start, goal, (1, 1)).joins(), True)
            self.assertIs(Push(start, goal, (1, 1)).joins(), False)

    def test_told(self):
        for word, made, start, goal, size in every_row():
            told = made(start, goal, size).told()
            self.assertIs(type(told), tuple)
            self.assertEqual(told, (word, start, goal, size))


class Turned(unittest.TestCase):
    def test_a_piece_keeps_its_size(self):
        self.assertEqual(Piece(1, 4, (5, 2)).turned().told(), ("piece", 4, 1, (5, 2)))

    def test_a_push_and_a_hold_have_nought_less_theirs(self):
        self.assertEqual(Push(1, 4, (5, 2)).turned().told(), ("push", 4, 1, (-5, 2)))
        self.assertEqual(Push(1, 4, (-5, 2)).turned().told(), ("push", 4, 1, (5, 2)))
        self.assertEqual(Hold(1, 4, (5, 2)).turned().told(), ("hold", 4, 1, (-5, 2)))
        self.assertEqual(Hold(1, 4, (0, 1)).turned().told(), ("hold", 4, 1, (0, 1)))

    def test_a_row_from_a_point_to_itself(self):
        self.assertEqual(Piece(2, 2, (3, 1)).turned().told(), ("piece", 2, 2, (3, 1)))
        self.assertEqual(Push(2, 2, (3, 1)).turned().told(), ("push", 2, 2, (-3, 1)))
        self.assertEqual(Hold(2, 2, (3, 1)).turned().told(), ("hold", 2, 2, (-3, 1)))

    def test_the_same_class_a_new_row_and_the_old_as_it_was(self):
        for word, made, start, goal, size in every_row():
            row = made(start, goal, size)
            turned = row.turned()
            self.assertIs(type(turned), made)
            self.assertIsNot(turned, row)
            self.assertTrue(is_fraction(turned.size))
            self.assertEqual((turned.start, turned.goal), (goal, start))
            self.assertEqual(row.told(), (word, start, goal, size))
            self.assertEqual(row.turned().told(), turned.told())

    def test_turned_again_as_it_was(self):
        for word, made, start, goal, size in every_row():
            row = made(start, goal, size)
            self.assertEqual(row.turned().turned().told(), row.told())

    def test_seen_from_the_other_end_the_stream_is_nought_less(self):
        for fall in [(3, 1), (-7, 5), (0, 1)]:
            back = (-fall[0], fall[1])
            for row in [Piece(0, 1, (2, 3)), Push(0, 1, (2, 3))]:
                there = row.stream(fall, (0, 1))
                self.assertEqual(row.turned().stream(back, (0, 1)), (-there[0], there[1]))


class At(unittest.TestCase):
    def test_places_as_a_list(self):
        for word, made, start, goal, size in every_row():
            places = [10, 11, 12, 13, 14, 15, 16, 17]
            row = made(start, goal, size)
            other = row.at(places)
            self.assertIs(type(other), made)
            self.assertIsNot(other, row)
            self.assertEqual(other.told(), (word, 10 + start, 10 + goal, size))
            self.assertEqual(row.told(), (word, start, goal, size))
            self.assertEqual(places, [10, 11, 12, 13, 14, 15, 16, 17])

    def test_places_as_a_dict(self):
        for word, made in CLASSES:
            places = {5: 0, 9: 3}
            row = made(5, 9, (1, 2))
            other = row.at(places)
            self.assertIs(type(other), made)
            self.assertEqual(other.told(), (word, 0, 3, (1, 2)))
            self.assertEqual(row.told(), (word, 5, 9, (1, 2)))
            self.assertEqual(places, {5: 0, 9: 3})

    def test_two_points_become_one_and_places_changed_later(self):
        for word, made in CLASSES:
            places = [4, 4]
            other = made(0, 1, (1, 2)).at(places)
            places[0] = 7
            self.assertEqual(other.told(), (word, 4, 4, (1, 2)))

    def test_the_size_is_not_turned(self):
        self.assertEqual(Push(0, 1, (3, 1)).at([1, 0]).told(), ("push", 1, 0, (3, 1)))
        self.assertEqual(Hold(0, 1, (3, 1)).at([1, 0]).told(), ("hold", 1, 0, (3, 1)))


class Stream(unittest.TestCase):
    def test_a_piece_has_the_fall_by_its_size(self):
        self.assertEqual(Piece(0, 1, (2, 1)).stream((6, 1), (9, 1)), (3, 1))
        self.assertEqual(Piece(0, 1, (4, 1)).stream((6, 1), (9, 1)), (3, 2))
        self.assertEqual(Piece(0, 1, (2, 3)).stream((-1, 1), (0, 1)), (-3, 2))
        self.assertEqual(Piece(0, 1, (2, 3)).stream((0, 1), (5, 1)), (0, 1))
        self.assertEqual(Piece(3, 3, (2, 3)).stream((0, 1), (5, 1)), (0, 1))

    def test_a_push_has_its_size(self):
        for fall in [(0, 1), (6, 1), (-1, 2)]:
            for held in [(0, 1), (9, 1)]:
                for size in [(2, 1), (0, 1), (-3, 7)]:
                    self.assertEqual(Push(0, 1, size).stream(fall, held), size)
                    self.assertEqual(Push(1, 1, size).stream(fall, held), size)

    def test_a_hold_has_what_it_is_said_to_hold(self):
        for fall in [(0, 1), (6, 1), (-1, 2)]:
            for held in [(0, 1), (9, 1), (-3, 7)]:
                self.assertEqual(Hold(0, 1, (2, 1)).stream(fall, held), held)
                self.assertEqual(Hold(1, 1, (2, 1)).stream(fall, held), held)

    def test_by_the_names_of_the_arguments(self):
        for word, made in CLASSES:
            row = made(0, 1, (2, 1))
            self.assertEqual(row.stream(held=(5, 1), fall=(7, 1)), row.stream((7, 1), (5, 1)))
            self.assertEqual(row.at(places=[3, 4]).told(), (word, 3, 4, (2, 1)))

    def test_asked_twice_the_row_stays(self):
        for word, made, start, goal, size in every_row():
            row = made(start, goal, size)
            self.assertEqual(row.stream((1, 3), (2, 5)), row.stream((1, 3), (2, 5)))
            self.assertTrue(is_fraction(row.stream((1, 3), (2, 5))))
            self.assertEqual(row.told(), (word, start, goal, size))


class RowOf(unittest.TestCase):
    def test_the_three_words(self):
        for word, made, start, goal, size in every_row():
            told = (word, start, goal, size)
            row = row_of(told)
            self.assertIs(type(row), made)
            self.assertEqual((row.start, row.goal, row.size), (start, goal, size))
            self.assertEqual(row.told(), told)
            self.assertIsNot(row_of(told), row)

    def test_by_the_name_of_the_argument(self):
        self.assertEqual(row_of(told=("push", 0, 1, (1, 2))).told(), ("push", 0, 1, (1, 2)))

    def test_a_word_put_together(self):
        self.assertEqual(row_of(("".join(["pi", "ece"]), 0, 1, (1, 2))).told(), ("piece", 0, 1, (1, 2)))

    def test_refused_of_any_other_word(self):
        for word in NO_WORDS + [AlwaysEqual(), NeverCompared()]:
            with self.assertRaises(NoWord):
                row_of((word, 0, 1, (1, 1)))

    def test_good_again_behind_a_refusal(self):
        for word, made in CLASSES:
            for asked in range(2):
                with self.assertRaises(OhmError):
                    row_of((word + "s", 0, 1, (1, 1)))
            self.assertEqual(row_of((word, 0, 1, (1, 1))).told(), (word, 0, 1, (1, 1)))

    def test_what_is_handed_in_is_not_changed(self):
        word = ["piece"]
        with self.assertRaises(NoWord):
            row_of((word, 0, 1, (1, 1)))
        self.assertEqual(word, ["piece"])


if __name__ == "__main__":
    unittest.main()
