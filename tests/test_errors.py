"""The refusals: [2] and [3], and the interface's ohmyard/errors.py."""

import copy
import pickle
import unittest

from ohmyard import errors
from ohmyard.errors import Floats, Held, Lame, OhmError, Ring

PLAIN = ["NoNumber", "NoPoint", "NoSize", "NoRow", "NoWord", "NoName", "NoStreams", "NoRoad", "TooMany"]
BEARING = ["Lame", "Ring", "Floats", "Held"]


def classes():
    return [getattr(errors, name) for name in PLAIN + BEARING]


class TheClasses(unittest.TestCase):
    def test_each_stands_under_the_one_above_and_value_error(self):
        self.assertTrue(issubclass(OhmError, ValueError))
        for refusal in classes():
            self.assertTrue(issubclass(refusal, OhmError), refusal)
            self.assertTrue(issubclass(refusal, ValueError), refusal)

    def test_none_stands_under_another(self):
        for refusal in classes():
            for another in classes():
                if refusal is not another:
                    self.assertFalse(issubclass(refusal, another), (refusal, another))
            self.assertFalse(issubclass(OhmError, refusal), refusal)

    def test_each_is_a_class_of_its_own(self):
        self.assertEqual(len(set(classes())), 13)

    def test_plain_ones_are_raised_and_taken(self):
        for name in PLAIN:
            refusal = getattr(errors, name)
            with self.assertRaises(refusal):
                raise refusal("words")
            with self.assertRaises(OhmError):
                raise refusal()


class TheFields(unittest.TestCase):
    def test_set_when_made(self):
        self.assertEqual(Lame([(1, 1), (-2, 3)]).multiples, [(1, 1), (-2, 3)])
        self.assertEqual(Ring([(2, 1), (0, -1)], (0, 1)).ring, [(2, 1), (0, -1)])
        self.assertEqual(Ring([(2, 1), (0, -1)], (5, 2)).total, (5, 2))
        self.assertEqual(Floats([1, 4]).points, [1, 4])
        self.assertEqual(Held(7).number, 7)
        self.assertEqual(Held(0).number, 0)

    def test_by_the_names_of_the_arguments(self):
        self.assertEqual(Lame(multiples=[(1, 1)]).multiples, [(1, 1)])
        made = Ring(ring=[(0, 1)], total=(1, 3))
        self.assertEqual((made.ring, made.total), ([(0, 1)], (1, 3)))
        self.assertEqual(Floats(points=[2]).points, [2])
        self.assertEqual(Held(number=3).number, 3)

    def test_lists_are_lists(self):
        self.assertIs(type(Lame([(1, 1)]).multiples), list)
        self.assertIs(type(Ring([(0, 1)], (0, 1)).ring), list)
        self.assertIs(type(Floats([1]).points), list)

    def test_what_is_raised_bears_them(self):
        with self.assertRaises(Ring) as caught:
            raise Ring([(0, 1)], (0, 1))
        self.assertEqual(caught.exception.ring, [(0, 1)])
        self.assertEqual(caught.exception.total, (0, 1))


class TheirOwnCopies(unittest.TestCase):
    def made_of(self):
        return [
            (Lame, [(1, 1), (0, 1)], (), "multiples"),
            (Ring, [(1, 1), (0, -1)], ((3, 1),), "ring"),
            (Floats, [1, 2], (), "points"),
        ]

    def test_the_list_handed_in_may_change_later(self):
        for refusal, handed, others, field in self.made_of():
            before = list(handed)
            made = refusal(handed, *others)
            words = str(made)
            handed.append("more")
            handed[0] = "other"
            self.assertEqual(getattr(made, field), before)
            self.assertEqual(str(made), words)

    def test_the_list_handed_in_is_not_changed(self):
        for refusal, handed, others, field in self.made_of():
            before = list(handed)
            made = refusal(handed, *others)
            getattr(made, field).append("more")
            self.assertEqual(handed, before)

    def test_two_of_one_list_go_their_own_ways(self):
        for refusal, handed, others, field in self.made_of():
            made = refusal(handed, *others)
            another = refusal(handed, *others)
            getattr(made, field).clear()
            self.assertEqual(getattr(another, field), handed)

    def test_an_error_can_be_copied(self):
        for made in [Lame([(1, 1)]), Ring([(0, 1)], (2, 3)), Floats([1]), Held(4)]:
            for again in [copy.copy(made), copy.deepcopy(made), pickle.loads(pickle.dumps(made))]:
                self.assertIs(type(again), type(made))
                self.assertEqual(vars(again), vars(made))


if __name__ == "__main__":
    unittest.main()
