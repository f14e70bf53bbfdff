"""Yards told by text: [35], [36], [37], [38], and of [2], [3], [4] what speaks of them."""

import re
import unittest
from fractions import Fraction

from ohmyard.errors import NoName, NoNumber, NoPoint, NoRow, NoSize, OhmError, TooMany
from ohmyard.heights import Answer
from ohmyard.nets import Net
from ohmyard.rows import Piece
from ohmyard.yards import Yard, is_name, yard_of
from samples import Nets, net_of

NO_TEXTS = [None, True, False, 0, 1, -1, 10 ** 5000, 1.5, b"piece a b 1", b"", (), ("piece", "a"), [], ["piece a b 1"], {},
            {"piece": 1}, object(), str, Fraction(1)]
NO_NUMBERS = [
    -1, -2, 10 ** 5000, True, False, None, "", "0", "1", b"0", 0.0, 1.0, Fraction(1), (), (0,), [], [0], {}, {0: 1}, {0},
    object(), int,
]
NO_NAMES = ["", "A", "aB", "a1", "1", "a.b", ".", "a-b", "-", "a_b", "abcdefghi", "a\n", "\n", "\t", "a\t", "\u00e4", "\u03b1",
            "\u0131", "a" * 1000, "a/b", "'a'"]
NO_FRACTIONS = ["", "a", "2/4", "3/1", "4/0", "-0", "01", "+1", "1.5", "1/", "/2", "1/-2", "--1", "\u0661", "1\n", "1" * 201,
                "1/2/3", "1e3"]


def letters(number):
    """A name of its own for each number."""
    return "abcdefghijklmnopqrstuvwxyz"[number // 26] + "abcdefghijklmnopqrstuvwxyz"[number % 26]


def told_rows(rows):
    yard = Yard()
    for row in rows:
        yard.tell(row)
    return yard


def seen(yard):
    names = yard.names()
    return (names, yard.net().told() if names else None)


def followed(yard):
    """What comes of some rows more: this shows what a yard keeps beside its net."""
    come = []
    for row in ["piece a a 1", "done", "part q m", "piece m n 1", "done", "put s q a", "put t q b", "put s p a", "put t p a b"]:
        try:
            yard.tell(row)
            come.append(seen(yard))
        except OhmError as refusal:
            come.append(type(refusal))
    return come


class PlainYard:
    """A yard that keeps its rows as words and writes all out anew each time: to hold the program against."""

    def __init__(self):
        self.parts = {}
        self.ground = ([], [])
        self.part = None

    def written(self, body):
        ends, rows = body
        names = list(ends)
        net = []

        def number(name):
            if name not in names:
                names.append(name)
            return names.index(name)

        for words in rows:
            if words[0] == "put":
                inner, inner_net = self.written(self.parts[words[2]])
                count = len(self.parts[words[2]][0])
                places = [number(name) for name in words[3:]]
                places += [number(words[1] + "." + name) for name in inner[count:]]
                net += [(word, places[start], places[goal], size) for word, start, goal, size in inner_net]
            else:
                start, goal = number(words[1]), number(words[2])
                size = Fraction(words[3])
                net.append((words[0], start, goal, (size.numerator, size.denominator)))
        return (names, net)

    def refusal(self, row):
        words = row.split(" ")
        word, count = words[0], len(words)
        if not (word in ("piece", "push", "hold") and count == 4 or word == "part" and count > 2
                or word == "put" and count > 3 or row == "done"):
            return NoRow
        if word == "part" and self.part or word == "done" and not self.part:
            return NoRow
        if word == "done":
            return None
        body = self.ground if self.part is None else self.parts_open()
        named = words[1:3] if count == 4 and word not in ("part", "put") else words[1:]
        if not all(re.fullmatch("[a-z]{1,8}", name) for name in named):
            return NoName
        if word == "part":
            if len(set(words[2:])) < count - 2 or words[1] in self.parts:
                return NoName
            return TooMany if len(self.parts) == 20 or count > 22 else None
        if word == "put":
            if [other for other in body[1] if other[0] == "put" and other[1] == words[1]]:
                return NoName
            if words[2] not in self.parts or len(self.parts[words[2]][0]) != count - 3:
                return NoName
        else:
            if not re.fullmatch(r"-?\d{1,200}(/\d{1,200})?", words[3], re.ASCII) or words[3].endswith("/0"):
                return NoNumber
            if str(Fraction(words[3])) != words[3]:
                return NoNumber
            if word == "piece" and Fraction(words[3]) <= 0:
                return NoSize
        names, net = self.written((body[0], body[1] + [words]))
        return TooMany if len(names) > 20 or len(net) > 40 else None

    def parts_open(self):
        return self.part[1]

    def tell(self, row):
        words = row.split(" ")
        if words[0] == "part":
            self.part = (words[1], (words[2:], []))
        elif words[0] == "done":
            self.parts[self.part[0]] = self.part[1]
            self.part = None
        else:
            (self.ground if self.part is None else self.parts_open())[1].append(words)


class Names(unittest.TestCase):
    def test_names(self):
        for name in ["a", "z", "abcdefgh", "zzzzzzzz", "piece", "put", "part", "done", "none", "hold"]:
            self.assertIs(is_name(name), True)
        for sign in "abcdefghijklmnopqrstuvwxyz":
            self.assertIs(is_name(sign), True)
            self.assertIs(is_name(sign * 8), True)
            self.assertIs(is_name(sign * 9), False)

    def test_no_names(self):
        for thing in NO_NAMES + NO_TEXTS + [b"a", ["a"], ("a",), {"a": 1}, {"a"}, "a b", " a", "a ", "`", "{"]:
            self.assertIs(is_name(thing), False)
        self.assertIs(is_name(thing="abc"), True)


class Rows(unittest.TestCase):
    def test_rows(self):
        yard = told_rows(["piece a b 2", "push c a -1/3", "hold b b 0", "hold d c -5"])
        self.assertEqual(yard.names(), ["a", "b", "c", "d"])
        self.assertEqual(yard.net().many(), 4)
        self.assertEqual(yard.net().told(), [
            ("piece", 0, 1, (2, 1)), ("push", 2, 0, (-1, 3)), ("hold", 1, 1, (0, 1)), ("hold", 3, 2, (-5, 1)),
        ])

    def test_the_start_comes_first(self):
        self.assertEqual(told_rows(["piece z b 2", "push q z 1"]).names(), ["z", "b", "q"])

    def test_tell_answers_none(self):
        yard = Yard()
        for row in ["piece a b 1", "part p x", "hold x y 1", "done", "put s p a"]:
            self.assertIsNone(yard.tell(row=row))

    def test_words_of_rows_may_be_names(self):
        yard = told_rows(["piece piece push 1", "part put hold done", "piece hold done 2", "done", "put put put done part"])
        self.assertEqual(seen(yard), (["piece", "push", "done", "part"], [("piece", 0, 1, (1, 1)), ("piece", 2, 3, (2, 1))]))

    def test_sizes(self):
        top, bottom = "1" * 200, "1" + "0" * 199
        yard = told_rows([f"hold a b -{top}/{bottom}", f"piece a b {top}/{bottom}"])
        self.assertEqual([row[3] for row in yard.net().told()], [(-int(top), int(bottom)), (int(top), int(bottom))])


class Parts(unittest.TestCase):
    def test_a_part_counts_only_where_it_is_put_in(self):
        yard = told_rows(["part p a b", "piece a m 1", "piece m b 2", "done"])
        self.assertEqual(yard.names(), [])
        with self.assertRaises(NoPoint):
            yard.net()
        yard.tell("put s p x y")
        self.assertEqual(seen(yard), (["x", "y", "s.m"], [("piece", 0, 2, (1, 1)), ("piece", 2, 1, (2, 1))]))

    def test_put_twice(self):
        yard = told_rows(["part p a b", "piece a m 1", "push b m 2", "done", "put s p x y", "put t p y z"])
        self.assertEqual(seen(yard), (["x", "y", "s.m", "z", "t.m"], [
            ("piece", 0, 2, (1, 1)), ("push", 1, 2, (2, 1)), ("piece", 1, 4, (1, 1)), ("push", 3, 4, (2, 1)),
        ]))

    def test_the_order_of_points(self):
        yard = told_rows(["part p a b c", "piece z c 1", "hold y a 2", "piece b z 3", "done", "piece k x 1", "put s p w k v"])
        self.assertEqual(seen(yard), (["k", "x", "w", "v", "s.z", "s.y"], [
            ("piece", 0, 1, (1, 1)), ("piece", 4, 3, (1, 1)), ("hold", 5, 2, (2, 1)), ("piece", 0, 4, (3, 1)),
        ]))

    def test_ends_first_though_no_row_names_them(self):
        yard = told_rows(["part p a b", "piece m n 1", "done", "put s p x y"])
        self.assertEqual(seen(yard), (["x", "y", "s.m", "s.n"], [("piece", 2, 3, (1, 1))]))

    def test_a_part_without_rows(self):
        yard = told_rows(["part p a b", "done", "put s p x y", "piece y z 1"])
        self.assertEqual(seen(yard), (["x", "y", "z"], [("piece", 1, 2, (1, 1))]))

    def test_the_same_point_for_two_ends(self):
        yard = told_rows(["part p a b c", "piece a b 1", "hold b m 2", "push m c 3", "done", "put s p x y x"])
        self.assertEqual(seen(yard), (["x", "y", "s.m"], [
            ("piece", 0, 1, (1, 1)), ("hold", 1, 2, (2, 1)), ("push", 2, 0, (3, 1)),
        ]))
        yard.tell("put t p w w w")
        self.assertEqual(yard.names(), ["x", "y", "s.m", "w", "t.m"])
        self.assertEqual(yard.net().told()[3:], [("piece", 3, 3, (1, 1)), ("hold", 3, 4, (2, 1)), ("push", 4, 3, (3, 1))])

    def test_parts_within_parts(self):
        yard = told_rows([
            "part in a b", "piece a m 1", "piece m b 2", "done",
            "part out a b", "put l in a m", "hold m b 5", "put r in m b", "done",
            "part far m", "put q out m top", "done",
            "put s out x y", "put t far y",
        ])
        self.assertEqual(yard.names(), ["x", "y", "s.m", "s.l.m", "s.r.m", "t.top", "t.q.m", "t.q.l.m", "t.q.r.m"])
        self.assertEqual(yard.net().told(), [
            ("piece", 0, 3, (1, 1)), ("piece", 3, 2, (2, 1)), ("hold", 2, 1, (5, 1)),
            ("piece", 2, 4, (1, 1)), ("piece", 4, 1, (2, 1)),
            ("piece", 1, 7, (1, 1)), ("piece", 7, 6, (2, 1)), ("hold", 6, 5, (5, 1)),
            ("piece", 6, 8, (1, 1)), ("piece", 8, 5, (2, 1)),
        ])

    def test_kinds_of_names_dont_mix(self):
        yard = told_rows(["part s s t", "piece s t 1", "piece t m 2", "done", "piece s m 1", "put s s s m", "put t s m t"])
        self.assertEqual(seen(yard), (["s", "m", "s.m", "t", "t.m"], [
            ("piece", 0, 1, (1, 1)), ("piece", 0, 1, (1, 1)), ("piece", 1, 2, (2, 1)),
            ("piece", 1, 3, (1, 1)), ("piece", 3, 4, (2, 1)),
        ]))

    def test_puts_have_their_names_for_themselves_in_each_part(self):
        yard = told_rows([
            "part p a", "piece a b 1", "done",
            "part q a", "put s p a", "put t p a", "done",
            "part r a", "put s q a", "done",
            "put s r x", "put t p x",
        ])
        self.assertEqual(yard.names(), ["x", "s.s.s.b", "s.s.t.b", "t.b"])

    def test_an_open_part(self):
        yard = told_rows(["piece a b 1", "part p a c", "piece a c 2"])
        self.assertEqual(seen(yard), (["a", "b"], [("piece", 0, 1, (1, 1))]))
        yard.tell("done")
        yard.tell("piece b c 3")
        self.assertEqual(seen(yard), (["a", "b", "c"], [("piece", 0, 1, (1, 1)), ("piece", 1, 2, (3, 1))]))

    def test_without_points(self):
        for rows in [[], ["part p a"], ["part p a", "piece a b 1", "done"]]:
            yard = told_rows(rows)
            self.assertEqual(yard.names(), [])
            for asked in range(2):
                with self.assertRaises(NoPoint):
                    yard.net()

    def test_answered_as_written_out(self):
        yard = told_rows([
            "part arm top low", "piece top m 1", "piece m low 3", "done",
            "part pair top low", "put l arm top low", "put r arm top low", "push low k 1", "piece k low 7", "done",
            "hold x base 12", "put s pair x base", "put t arm x y", "piece y base 2",
        ])
        written = told_rows([
            "hold x base 12", "piece x slm 1", "piece slm base 3", "piece x srm 1", "piece srm base 3", "push base sk 1",
            "piece sk base 7", "piece x tm 1", "piece tm y 3", "piece y base 2",
        ])
        short = [name.replace(".", "") for name in yard.names()]
        answer, plain = Answer(yard.net()), Answer(written.net())
        self.assertEqual(dict(zip(short, answer.heights())), dict(zip(written.names(), plain.heights())))
        self.assertEqual(answer.streams(), plain.streams())


class Refused(unittest.TestCase):
    def check(self, kind, rows, row):
        yard = told_rows(rows)
        kept = seen(yard)
        for asked in range(2):
            with self.assertRaises(kind):
                yard.tell(row)
            self.assertEqual(seen(yard), kept)
        self.assertEqual(followed(yard), followed(told_rows(rows)))

    def test_no_text(self):
        for thing in NO_TEXTS:
            self.check(NoRow, [], thing)
            self.check(NoRow, ["part p a"], thing)

    def test_no_form(self):
        for row in [
            "", " ", "  ", "piece", "piece a", "piece a b", "piece a b 1 2", "piece a b 1 ", "piece  a b 1", " piece a b 1",
            "push a b", "push a b 1 1", "hold a b", "hold a b 1 c", "part", "part p", "put", "put s", "put s p", "done ",
            " done", "done p", "Piece a b 1", "PIECE a b 1", "pieces a b 1", "row a b 1", "a", "a b c d", "piece\ta\tb\t1",
            "done\n", "piece a b 1\npiece a b 1", "height a", "floats", "change 0 1", "puts s p a", "parts p a", "1",
        ]:
            self.check(NoRow, [], row)
            self.check(NoRow, ["part p a"], row)

    def test_a_part_within_a_part(self):
        for row in ["part q a", "part p a", "part p a a", "part Q 1", "part q " + " ".join(letters(n) for n in range(21))]:
            self.check(NoRow, ["part p a"], row)
        self.check(NoRow, ["part q x", "done", "part p a", "put s q a"], "part q a")

    def test_done_without_a_part(self):
        self.check(NoRow, [], "done")
        self.check(NoRow, ["part p a", "done"], "done")

    def test_no_name(self):
        rows = ["part p x y", "done"]
        for name in [name for name in NO_NAMES if " " not in name]:
            for row in [f"piece {name} b 1", f"push a {name} 1", f"hold {name} {name} 1", f"part {name} a", f"part q {name}",
                        f"part q a {name}", f"put {name} p a b", f"put s {name} a b", f"put s p {name} b", f"put s p a {name}"]:
                self.check(NoName, rows, row)
        for row in ["piece a  1", "part q a ", "put s p a ", "put s p  b", "part  a", "put  p a b"]:
            self.check(NoName, rows, row)

    def test_names_ahead_of_all_behind(self):
        self.check(NoName, [], "piece A b x")
        self.check(NoName, [], "piece a 1 0")
        self.check(NoName, [], "hold a b.c 2/4")
        full = ["piece a b 1"] * 40
        self.check(NoName, full, "piece A b x")
        self.check(NoName, full, "put s p a")
        many = " ".join(letters(n) for n in range(21))
        self.check(NoName, [], f"part p {many} A")
        self.check(NoName, ["part p a", "done"], f"part p {many}")

    def test_an_end_twice(self):
        self.check(NoName, [], "part p a a")
        self.check(NoName, [], "part p a b c b")
        self.check(NoName, [], "part p " + " ".join(letters(n) for n in range(21)) + " aa")

    def test_the_name_of_a_part_told_before(self):
        rows = ["part p a", "done", "part q a b", "done"]
        self.check(NoName, rows, "part p b")
        self.check(NoName, rows, "part q a b")

    def test_the_name_of_a_put_told_before(self):
        rows = ["part p a", "done", "put s p a"]
        self.check(NoName, rows, "put s p b")
        self.check(NoName, rows, "put s p a")
        inner = rows + ["part q a", "put s p a", "put t p a"]
        self.check(NoName, inner, "put s p a")
        self.check(NoName, inner, "put t p a")
        self.check(NoName, inner + ["done"], "put s q a")
        told_rows(inner + ["done", "put t q a", "part r a", "put s q a", "put t q a"])

    def test_no_closed_part(self):
        self.check(NoName, [], "put s p a")
        self.check(NoName, ["part p a"], "put s p a")
        self.check(NoName, ["part p a", "done"], "put p q a")
        self.check(NoName, ["part p a", "done", "put s p x"], "put t s x")

    def test_the_count_of_points(self):
        rows = ["part one a", "done", "part two a b", "piece a b 1", "piece b m 1", "done"]
        for row in ["put s one a b", "put s two a", "put s two a b c", "put s two a b m"]:
            self.check(NoName, rows, row)
        told_rows(rows + ["put s one a", "put t two a b"])

    def test_no_number(self):
        for size in NO_FRACTIONS:
            for word in ["piece", "push", "hold"]:
                self.check(NoNumber, [], f"{word} a b {size}")
        self.check(NoNumber, [], "piece a b -0")
        self.check(NoNumber, [], "piece a b 0/1")
        self.check(NoNumber, ["piece a b 1"] * 40, "piece a b 2/4")
        self.check(NoNumber, ["part p x"], "hold a b 01")

    def test_no_size(self):
        for size in ["0", "-1", "-1/2"]:
            self.check(NoSize, [], f"piece a b {size}")
            self.check(NoSize, ["part p x"], f"piece x x {size}")
            self.check(NoSize, ["piece a b 1"] * 40, f"piece a b {size}")
            told_rows([f"push a b {size}", f"hold a b {size}"])

    def test_what_is_refused_may_be_told_later(self):
        yard = told_rows(["piece a b 1"])
        for kind, row in [(NoName, "put s p a"), (NoNumber, "piece c d x"), (NoSize, "piece e f 0"), (NoName, "part p x x"),
                          (NoRow, "done"), (NoName, "part p x Y")]:
            with self.assertRaises(kind):
                yard.tell(row)
        for row in ["part p x", "piece x f 1", "done"]:
            yard.tell(row)
        with self.assertRaises(NoName):
            yard.tell("put s p a b")
        yard.tell("put s p a")
        self.assertEqual(yard.names(), ["a", "b", "s.f"])
        yard.tell("piece d c 1")
        self.assertEqual(yard.names(), ["a", "b", "s.f", "d", "c"])


class TooMuch(unittest.TestCase):
    def refused(self, yard, row):
        kept = seen(yard)
        with self.assertRaises(TooMany):
            yard.tell(row)
        self.assertEqual(seen(yard), kept)

    def test_points_of_a_yard(self):
        yard = told_rows([f"piece base {letters(n)} 1" for n in range(18)])
        self.assertEqual(len(yard.names()), 19)
        self.refused(yard, "piece x y 1")
        yard.tell("piece x base 1")
        self.assertEqual(yard.net().many(), 20)
        for row in ["piece base y 1", "push y base 1", "hold y y 1"]:
            self.refused(yard, row)
        yard.tell("hold x aa 1")

    def test_rows_of_a_yard(self):
        yard = told_rows(["piece a b 1"] * 39)
        yard.tell("push a b 0")
        self.assertEqual(yard.net().count(), 40)
        for row in ["piece a b 1", "push b a 0", "hold c c 0"]:
            self.refused(yard, row)
        yard.tell("part p a")
        yard.tell("done")
        yard.tell("put s p x")
        self.assertEqual(yard.names(), ["a", "b", "x"])

    def test_points_put_in(self):
        rows = ["part p a b"] + [f"piece a {letters(n)} 1" for n in range(9)] + ["done"]
        yard = told_rows(rows + ["put s p x y"])
        self.assertEqual(len(yard.names()), 11)
        self.refused(yard, "put t p x z")
        yard.tell("put t p x y")
        self.assertEqual(len(yard.names()), 20)
        self.assertEqual(yard.net().count(), 18)
        self.refused(yard, "put u p x y")
        yard = told_rows(rows + ["put s p x x"])
        self.assertEqual(len(yard.names()), 10)
        yard.tell("put t p z z")
        self.assertEqual(len(yard.names()), 20)

    def test_rows_put_in(self):
        yard = told_rows(["part p a"] + ["hold a a 1"] * 20 + ["done", "part q a", "put s p a", "put t p a", "done"])
        yard.tell("put s p x")
        yard.tell("push x x 1")
        self.refused(yard, "put t p x")
        self.refused(yard, "put t q x")
        yard = told_rows(["part p a"] + ["hold a a 1"] * 20 + ["done", "put s p x", "put t p y"])
        self.assertEqual(yard.net().count(), 40)
        self.refused(yard, "push x x 1")

    def test_a_refused_put_leaves_its_name(self):
        yard = told_rows(["part p a"] + ["hold a a 1"] * 21 + ["done", "part q a", "done", "put s p x"])
        self.refused(yard, "put t p y")
        self.assertEqual(yard.names(), ["x"])
        yard.tell("put t q y")
        self.assertEqual(yard.names(), ["x", "y"])

    def test_points_of_a_part(self):
        many = " ".join(letters(n) for n in range(20))
        yard = Yard()
        self.refused(yard, f"part p {many} x")
        with self.assertRaises(NoRow):
            yard.tell("done")
        yard.tell(f"part p {many}")
        self.refused(yard, "piece aa x 1")
        self.refused(yard, "piece x aa 1")
        yard.tell("piece ab aa 1")
        yard.tell("done")
        yard.tell(f"put s p {many}")
        self.assertEqual(seen(yard), (many.split(" "), [("piece", 1, 0, (1, 1))]))
        yard = told_rows(["part p a"] + [f"piece a {letters(n)} 1" for n in range(19)])
        self.refused(yard, "piece a x 1")
        yard.tell("done")
        yard.tell("put s p x")
        self.assertEqual(yard.net().many(), 20)

    def test_rows_of_a_part(self):
        yard = told_rows(["part p a"] + ["piece a a 1"] * 40)
        self.refused(yard, "piece a a 1")
        yard.tell("done")
        yard.tell("piece x x 1")
        self.refused(yard, "put s p x")
        yard.tell("part q a")
        yard.tell("put s p a")
        self.refused(yard, "piece a a 1")
        self.refused(yard, "put t p a")
        yard.tell("done")
        self.refused(yard, "put s q x")

    def test_a_part_counts_for_itself(self):
        # The yard is full: that doesn't count for a part, nor what stands in the part for the yard.
        yard = told_rows(["piece a b 1"] * 40 + ["part p a"] + ["hold a a 1"] * 40)
        self.refused(yard, "hold a a 1")
        yard.tell("done")
        self.refused(yard, "hold a a 1")

    def test_points_put_in_a_part(self):
        yard = told_rows(["part p a"] + [f"piece a {letters(n)} 1" for n in range(10)] + ["done", "part q a", "put s p a"])
        self.refused(yard, "put t p a")
        yard.tell("piece a b 1")
        self.refused(yard, "put t p b")

    def test_parts(self):
        yard = Yard()
        for number in range(20):
            yard.tell(f"part {letters(number)} a")
            yard.tell("done")
        for row in ["part x a", "part xy a b"]:
            self.refused(yard, row)
        for kind, row in [(NoName, "part aa a"), (NoName, "part x a a"), (NoName, "part X a"), (NoRow, "part x")]:
            with self.assertRaises(kind):
                yard.tell(row)
        with self.assertRaises(NoRow):
            yard.tell("done")
        yard.tell("put s at x")
        self.assertEqual(yard.names(), ["x"])

    def test_the_twentieth_part_is_opened(self):
        yard = Yard()
        for number in range(19):
            yard.tell(f"part {letters(number)} a")
            yard.tell("done")
        yard.tell("part x a")
        with self.assertRaises(NoRow):
            yard.tell("part y a")
        yard.tell("done")
        self.refused(yard, "part y a")

    def test_twenty_parts_within_one_another(self):
        yard = told_rows(["part aa a", "piece a b 1", "done"])
        for number in range(1, 20):
            for row in [f"part {letters(number)} a", f"put s {letters(number - 1)} a", "done"]:
                yard.tell(row)
        yard.tell("put s at x")
        self.assertEqual(yard.names(), ["x", "s." * 20 + "b"])


class Drawn(unittest.TestCase):
    def row(self, chance):
        names = ["a", "b", "c", "d", "e", "A", ""] if chance.randrange(12) == 0 else ["a", "b", "c", "d", "e", "f"]
        word = chance.choice(["piece", "push", "hold", "part", "put", "put", "put", "put", "done"])
        if word == "done":
            return word
        if word == "part":
            return " ".join([word, chance.choice("pqrstuv")] + [chance.choice(names) for end in range(chance.randint(1, 3))])
        if word == "put":
            points = [chance.choice(names) for end in range(chance.randint(1, 3))]
            return " ".join([word, chance.choice("klmnopqrst"), chance.choice("pqrstuv")] + points)
        size = chance.choice(["1", "2", "3/2", "-1", "0", "2/4", "7/5"])
        return " ".join([word, chance.choice(names), chance.choice(names), size])

    def test_as_a_yard_that_writes_all_out(self):
        chance = Nets(71).chance
        refusals = {}
        largest = 0
        for turn in range(25):
            yard, plain = Yard(), PlainYard()
            for told in range(150):
                row = self.row(chance)
                expected = plain.refusal(row)
                refusals[expected] = refusals.get(expected, 0) + 1
                if expected is None:
                    yard.tell(row)
                    plain.tell(row)
                else:
                    with self.assertRaises(OhmError) as caught:
                        yard.tell(row)
                    self.assertEqual(type(caught.exception), expected, row)
                names, net = plain.written(plain.ground)
                self.assertEqual(seen(yard), (names, net if names else None))
                largest = max(largest, max([name.count(".") for name in names], default=0))
        for kind in [None, NoRow, NoName, NoNumber, NoSize, TooMany]:
            self.assertGreater(refusals[kind], 20)
        self.assertGreater(largest, 1)


class Texts(unittest.TestCase):
    TEXT = "part p a b\npiece a m 1\nhold m b -1/2\ndone\nput s p x y\npush x y 3"

    def test_as_rows_told_one_by_one(self):
        yard = yard_of(self.TEXT)
        self.assertIsInstance(yard, Yard)
        self.assertEqual(seen(yard), seen(told_rows(self.TEXT.split("\n"))))
        self.assertEqual(seen(yard_of(text=self.TEXT)), (["x", "y", "s.m"], [
            ("piece", 0, 2, (1, 1)), ("hold", 2, 1, (-1, 2)), ("push", 0, 1, (3, 1)),
        ]))
        self.assertEqual(seen(yard_of("piece a b 1")), (["a", "b"], [("piece", 0, 1, (1, 1))]))

    def test_without_signs(self):
        yard = yard_of("")
        self.assertEqual(yard.names(), [])
        with self.assertRaises(NoPoint):
            yard.net()
        yard.tell("piece a b 1")
        self.assertEqual(yard.names(), ["a", "b"])

    def test_a_line_end_at_the_end(self):
        for text in [self.TEXT + "\n", "\n", "\n" + self.TEXT, "piece a b 1\n", "piece a b 1\n\npiece a b 1"]:
            with self.assertRaises(NoRow):
                yard_of(text)

    def test_other_line_ends(self):
        for text in ["piece a b 1\rpiece a b 2", "piece a b 1\x0bpiece a b 2", "piece a b 1\u2028piece a b 2"]:
            with self.assertRaises(NoRow):
                yard_of(text)
        with self.assertRaises(NoNumber):
            yard_of("piece a b 1\r\npiece a b 2")

    def test_a_part_left_open(self):
        yard = yard_of("piece x y 1\npart p a b\npiece a b 2")
        self.assertEqual(yard.names(), ["x", "y"])
        with self.assertRaises(NoRow):
            yard.tell("part q a")
        for row in ["piece b m 3", "done", "put s p y z"]:
            yard.tell(row)
        self.assertEqual(seen(yard), (["x", "y", "z", "s.m"], [
            ("piece", 0, 1, (1, 1)), ("piece", 1, 2, (2, 1)), ("piece", 2, 3, (3, 1)),
        ]))

    def test_no_text(self):
        for thing in NO_TEXTS:
            with self.assertRaises(NoRow):
                yard_of(thing)

    def test_refused_as_rows_are(self):
        for kind, row in [(NoRow, "row a b 1"), (NoName, "piece A b 1"), (NoNumber, "piece a b x"), (NoSize, "piece a b 0"),
                          (NoRow, " "), (NoRow, "done"), (NoName, "put s q a")]:
            for text in [row, "piece a b 1\n" + row, "piece a b 1\n" + row + "\npiece a b"]:
                with self.assertRaises(kind):
                    yard_of(text)
        with self.assertRaises(TooMany):
            yard_of("\n".join(["piece a b 1"] * 41))
        self.assertEqual(yard_of("\n".join(["piece a b 1"] * 40)).net().count(), 40)


class Changes(unittest.TestCase):
    ROWS = ["part p a b", "piece a m 1", "hold m b 2", "done", "put s p x y", "push x y 3"]

    def test_by_number(self):
        yard = told_rows(self.ROWS)
        self.assertIsNone(yard.change(0, (7, 2)))
        yard.change(k=1, size=(-3, 1))
        yard.change(2, (0, 1))
        self.assertEqual(yard.net().told(), [("piece", 0, 2, (7, 2)), ("hold", 2, 1, (-3, 1)), ("push", 0, 1, (0, 1))])

    def test_no_part_is_changed(self):
        yard = told_rows(self.ROWS)
        yard.change(0, (7, 2))
        yard.change(1, (9, 1))
        yard.tell("put t p y z")
        self.assertEqual([row[3] for row in yard.net().told()], [(7, 2), (9, 1), (3, 1), (1, 1), (2, 1)])
        yard.change(3, (5, 1))
        yard.tell("put u p z w")
        self.assertEqual([row[3] for row in yard.net().told()], [(7, 2), (9, 1), (3, 1), (5, 1), (2, 1), (1, 1), (2, 1)])
        for row in ["part q a b", "put s p a b", "done", "put v q w o"]:
            yard.tell(row)
        self.assertEqual([row[3] for row in yard.net().told()][7:], [(1, 1), (2, 1)])

    def test_in_an_open_part(self):
        yard = told_rows(self.ROWS + ["part q a b", "piece a b 4", "piece a b 5", "piece a b 6", "piece a b 7"])
        yard.change(2, (8, 1))
        with self.assertRaises(NoRow):
            yard.change(3, (8, 1))
        yard.tell("done")
        yard.tell("put t q x y")
        self.assertEqual([row[3] for row in yard.net().told()], [(1, 1), (2, 1), (8, 1), (4, 1), (5, 1), (6, 1), (7, 1)])

    def test_refused(self):
        yard = told_rows(self.ROWS)
        kept = seen(yard)
        for thing in NO_NUMBERS + [3, 4, 40]:
            for size in [(1, 1), None, (0, 1)]:
                with self.assertRaises(NoRow):
                    yard.change(thing, size)
        for size in [None, True, 0, 1, "1", 1.0, (), (1,), (2, 4), (1, 0), (1, -1), (True, 1), [1, 1], (1, 2, 3), object()]:
            for k in range(3):
                with self.assertRaises(NoSize):
                    yard.change(k, size)
        for size in [(0, 1), (-1, 1)]:
            with self.assertRaises(NoSize):
                yard.change(0, size)
        self.assertEqual(seen(yard), kept)

    def test_without_rows(self):
        for yard in [Yard(), told_rows(["part p a", "piece a b 1"]), told_rows(["part p a", "done", "put s p x"])]:
            for size in [(1, 1), None]:
                with self.assertRaises(NoRow):
                    yard.change(0, size)


class TheAskersOwn(unittest.TestCase):
    def test_nets_and_names(self):
        yard = told_rows(Changes.ROWS)
        kept = (list(yard.names()), yard.net().told())
        net, names = yard.net(), yard.names()
        self.assertIsInstance(net, Net)
        net.change(0, (99, 1))
        net.add(Piece(0, 1, (1, 1)))
        names.append("more")
        names[0] = "other"
        self.assertEqual(seen(yard), kept)
        net, names = yard.net(), yard.names()
        yard.change(0, (98, 1))
        yard.tell("piece o x 1")
        self.assertEqual((names, net.told()), kept)

    def test_yards_go_their_own_ways(self):
        first, second = Yard(), Yard()
        first.tell("piece a b 1")
        first.tell("part p a")
        self.assertEqual(second.names(), [])
        second.tell("part p a")
        second.tell("done")
        second.tell("put s p x")
        first.tell("done")
        self.assertEqual((first.names(), second.names()), (["a", "b"], ["x"]))

    def test_heights_by_name(self):
        yard = yard_of("part half a b\npiece a m 1\npiece m b 1\ndone\nhold x base 8\nput s half x base")
        self.assertEqual(yard.names(), ["x", "base", "s.m"])
        self.assertEqual(Answer(yard.net()).heights(), [(0, 1), (-8, 1), (-4, 1)])


if __name__ == "__main__":
    unittest.main()
