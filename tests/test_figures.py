"""Fractions as texts: [7], and of [2] and [3] what speaks of them."""

import unittest

from ohmyard.errors import NoNumber, OhmError
from ohmyard.figures import read, show
from ohmyard.ratios import fraction, is_fraction

NINES = "9" * 200
LONG = "1" + "0" * 199

WRITTEN = [
    ("0", (0, 1)), ("1", (1, 1)), ("-1", (-1, 1)), ("9", (9, 1)), ("10", (10, 1)), ("-100", (-100, 1)),
    ("1/2", (1, 2)), ("-1/2", (-1, 2)), ("3/2", (3, 2)), ("-35/12", (-35, 12)), ("10/101", (10, 101)),
    ("1234567890", (1234567890, 1)), ("-1/1234567890", (-1, 1234567890)),
]

NOT_SO_WRITTEN = [
    "2/4", "-2/4", "6/3", "3/1", "-3/1", "0/1", "0/2", "-0/2", "4/0", "0/0", "-4/0", "1/1", "-1/1",
    "-0", "00", "01", "-01", "1/02", "01/2", "1/00", "-00", "007/3",
    "+1", "+0", "+1/2", "1/+2", "1+", "1-", "--1", "-+1", "+-1", "1-2", "-1-",
    "", " ", "-", "+", "/", "-/", "/2", "-/2", "1/", "-1/", "//", "1//2", "1/2/3", "1/2/", "/1/2", "1/3/",
    "1/-2", "-1/-2", "1/-", "1/-0",
    " 1", "1 ", " 1 ", "- 1", "1 /2", "1/ 2", "1/2 ", " 1/2", "1 2", "1 000",
    "1\n", "\n1", "1/2\n", "\n", "1\r", "1\t", "\t1", "1\x00", "1\u00a0", "1/\n2", "-\n1", "1\n2",
    "1_000", "1,5", "1.5", "1.0", "1e3", "0x10", "0b1", "1L", "a", "1a", "a/b", "one", "None", "True", "nan", "inf",
    "\u0661", "1\u0662", "\u0661/\u0662", "1/\u0663", "\uff11", "\uff11/2", "\u00b2", "2\u00b2", "\u00bd", "\u0967",
    "\U0001d7cf", "3/\U0001d7d0", "\u2460", "\u4e00", "\u22121", "\uff0d1", "1\u20442", "1\u22152", "1\\2",
]

NO_TEXTS = [None, True, False, 0, 1, -3, 0.5, b"1", b"1/2", (1, 2), (1, 1), ["1"], ["1", "2"], {"1": 1}, object(), str]


class Show(unittest.TestCase):
    def test_written(self):
        for text, one in WRITTEN:
            self.assertEqual(show(one), text)
            self.assertIs(type(show(one)), str)

    def test_has_no_bound(self):
        for many in [200, 201, 450, 4000]:
            top = 10 ** (many - 1)
            self.assertEqual(show((top, 1)), "1" + "0" * (many - 1))
            self.assertEqual(show((-top, 1)), "-1" + "0" * (many - 1))
            self.assertEqual(show((top, top + 1)), "1" + "0" * (many - 1) + "/1" + "0" * (many - 2) + "1")
            self.assertEqual(show((1, top)), "1/1" + "0" * (many - 1))

    def test_by_the_name_of_the_argument(self):
        self.assertEqual(show(one=(1, 2)), "1/2")


class Read(unittest.TestCase):
    def test_written(self):
        for text, one in WRITTEN:
            made = read(text)
            self.assertEqual(made, one)
            self.assertIs(type(made), tuple)
            self.assertTrue(is_fraction(made))

    def test_what_is_shown_is_read(self):
        for top in list(range(-12, 13)) + [10 ** 199, -(10 ** 200) + 1]:
            for bottom in list(range(1, 13)) + [7 ** 200, 10 ** 200 - 1]:
                one = fraction(top, bottom)
                self.assertEqual(read(show(one)), one)

    def test_by_the_name_of_the_argument(self):
        self.assertEqual(read(text="1/2"), (1, 2))

    def test_two_hundred_figures(self):
        self.assertEqual(read(NINES), (10 ** 200 - 1, 1))
        self.assertEqual(read("-" + NINES), (1 - 10 ** 200, 1))
        self.assertEqual(read("1/" + NINES), (1, 10 ** 200 - 1))
        self.assertEqual(read(LONG + "/" + NINES), (10 ** 199, 10 ** 200 - 1))
        self.assertEqual(read("-" + LONG + "/" + NINES), (-(10 ** 199), 10 ** 200 - 1))

    def test_two_hundred_and_one(self):
        for text in [NINES + "9", "-" + NINES + "9", NINES + "9/2", "-" + NINES + "9/2", "1/" + NINES + "9",
                     "-1/" + NINES + "9", LONG + "/" + NINES + "9", LONG + "0/" + NINES, LONG + "0", "9" * 5000,
                     "1/" + "9" * 5000, "0" * 201, "0" + NINES]:
            with self.assertRaises(NoNumber, msg=text):
                read(text)

    def test_refused_of_texts(self):
        for text in NOT_SO_WRITTEN:
            with self.assertRaises(NoNumber, msg=repr(text)):
                read(text)

    def test_any_other_sign_is_refused_anywhere(self):
        signs = [chr(number) for number in range(0x3000) if chr(number) not in "0123456789"]
        for sign in signs:
            for text in [sign, sign + "1", "1" + sign, "1/" + sign + "3", "1/3" + sign, "1" + sign + "/3"]:
                if text == "-1":
                    continue
                with self.assertRaises(NoNumber, msg=repr(text)):
                    read(text)

    def test_refused_of_what_is_no_text(self):
        for thing in NO_TEXTS:
            with self.assertRaises(NoNumber, msg=repr(thing)):
                read(thing)

    def test_refused_once_good_later(self):
        for text in ["2/4", "4/0", "", None, NINES + "9"]:
            for asked in range(2):
                with self.assertRaises(OhmError):
                    read(text)
            self.assertEqual(read("1/2"), (1, 2))
            self.assertEqual(read(NINES), (10 ** 200 - 1, 1))

    def test_what_is_handed_in_is_not_changed(self):
        handed = ["1", "2"]
        with self.assertRaises(NoNumber):
            read(handed)
        self.assertEqual(handed, ["1", "2"])


if __name__ == "__main__":
    unittest.main()
