"""The desk: [39], [40], and of [2], [3], [4] what speaks of it, the whole program asked by texts."""

import unittest
from fractions import Fraction

from ohmyard.between import between
from ohmyard.desk import Desk
from ohmyard.errors import Floats, Held, NoName, NoNumber, NoPoint, NoRow, NoSize, OhmError, Ring, TooMany
from ohmyard.figures import show
from ohmyard.hanging import floating
from ohmyard.heights import Answer
from ohmyard.waste import waste
from ohmyard.yards import Yard
from samples import Nets

NO_TEXTS = [None, True, False, 0, 1, -1, 10 ** 5000, 1.5, b"waste", b"", (), ("waste",), [], ["waste"], {}, {"waste": 1},
            object(), str, Fraction(1)]
YARD = ["hold a b 12", "piece a c 2", "piece c b 4", "push b c 3", "piece a b 6"]
PARTS = [
    "part arm top low", "piece top m 1", "piece m low 3", "done",
    "part pair top low", "put l arm top low", "put r arm low top", "push low k 1", "piece k low 7", "done",
    "piece x base 12", "put s pair x base", "put t arm x y", "piece y base 2", "push base y 5/3",
]
WRITTEN = [
    "piece x base 12", "piece x slm 1", "piece slm base 3", "piece base srm 1", "piece srm x 3", "push base sk 1",
    "piece sk base 7", "piece x tm 1", "piece tm y 3", "piece y base 2", "push base y 5/3",
]


def told_rows(rows):
    desk = Desk()
    for row in rows:
        desk.say(row)
    return desk


def come_of(desk, row):
    """The text, or the refusal's class with what it bears."""
    try:
        return desk.say(row)
    except OhmError as refusal:
        return (type(refusal), sorted(vars(refusal).items()))


class Rows(unittest.TestCase):
    def test_ok(self):
        desk = Desk()
        for row in PARTS:
            self.assertEqual(desk.say(row=row), "ok")

    def test_as_a_yard(self):
        desk = Desk()
        yard = Yard()
        for row in PARTS:
            yard.tell(row)
            desk.say(row)
        heights = Answer(yard.net()).heights()
        for name, height in zip(yard.names(), heights):
            self.assertEqual(desk.say(f"height {name}"), show(height))


class Questions(unittest.TestCase):
    def test_height(self):
        desk = told_rows(YARD)
        self.assertEqual([desk.say(f"height {name}") for name in "abc"], ["0", "-12", "0"])
        desk.say("change 3 1/3")
        self.assertEqual(desk.say("height c"), "-32/9")

    def test_fall(self):
        desk = told_rows(YARD)
        self.assertEqual(desk.say("fall a b"), "12")
        self.assertEqual(desk.say("fall b a"), "-12")
        self.assertEqual(desk.say("fall c c"), "0")
        desk.say("change 3 0")
        self.assertEqual([desk.say("fall a c"), desk.say("fall c b")], ["4", "8"])

    def test_between(self):
        desk = told_rows(["piece a b 2", "piece b c 3", "piece c a 5", "push a b 7"])
        self.assertEqual(desk.say("between a c"), "5/2")
        self.assertEqual(desk.say("between c b"), "21/10")
        self.assertEqual(desk.say("between b b"), "0")
        self.assertEqual(told_rows(YARD).say("between a b"), "0")
        self.assertEqual(told_rows(YARD).say("between a c"), "4/3")

    def test_waste(self):
        self.assertEqual(told_rows(YARD).say("waste"), "60")
        self.assertEqual(told_rows(["piece a b 2", "push a b 1/3"]).say("waste"), "2/9")
        self.assertEqual(told_rows(["push a a 2"]).say("waste"), "0")

    def test_stream(self):
        desk = told_rows(YARD)
        self.assertEqual([desk.say(f"stream {k}") for k in range(5)], ["-2", "0", "3", "3", "2"])
        desk = told_rows(["piece a b 2"] * 40)
        desk.say("change 39 1")
        desk.say("change 0 3")
        self.assertEqual([desk.say("stream 39"), desk.say("stream 10"), desk.say("stream 9")], ["0", "0", "0"])

    def test_change(self):
        desk = told_rows(YARD)
        self.assertEqual(desk.say("change 0 6"), "ok")
        self.assertEqual(desk.say("fall a b"), "6")
        self.assertEqual(desk.say("change 0 -1/2"), "ok")
        self.assertEqual(desk.say("fall a b"), "-1/2")
        self.assertEqual(desk.say("change 3 0"), "ok")
        self.assertEqual(desk.say("stream 3"), "0")
        self.assertEqual(desk.say("change 4 1/2"), "ok")
        self.assertEqual(desk.say("stream 4"), "-1")

    def test_floats(self):
        self.assertEqual(told_rows(YARD).say("floats"), "none")
        desk = told_rows(["piece a b 1", "push a c 1", "piece d e 1", "hold c f 2"])
        self.assertEqual(desk.say("floats"), "c d e f")
        desk.say("piece f a 1")
        self.assertEqual(desk.say("floats"), "d e")
        desk = told_rows(["part p a b", "piece a m 1", "piece n b 1", "done", "piece x y 1", "put s p x z"])
        self.assertEqual(desk.say("floats"), "z s.n")

    def test_floats_of_a_net_whose_holds_make_a_ring(self):
        desk = told_rows(["hold a b 1", "hold b a 1"])
        self.assertEqual(desk.say("floats"), "none")
        desk.say("push a c 1")
        self.assertEqual(desk.say("floats"), "c")
        desk.say("hold c c 1")
        self.assertEqual(desk.say("floats"), "c")

    def test_smaller(self):
        desk = told_rows(["piece a c 1", "piece c b 3", "push a c 8"])
        self.assertEqual(desk.say("smaller a b"), "piece a b 4; push a b 2")
        self.assertEqual(desk.say("smaller b a"), "piece b a 4; push b a -2")
        self.assertEqual(desk.say("smaller b c a"), "piece b c 3; piece c a 1; push b c 8; push b a -8")
        self.assertEqual(desk.say("smaller a"), "none")
        self.assertEqual(desk.say("smaller c b"), "piece c b 3")

    def test_smaller_without_rows(self):
        desk = told_rows(["push a b 0", "piece a a 1"])
        self.assertEqual(desk.say("smaller a b"), "none")
        desk.say("change 0 1/2")
        self.assertEqual(desk.say("smaller a b"), "push a b 1/2")

    def test_smaller_told_to_a_second_desk(self):
        inside = ["piece x m 1", "piece m y 2", "piece m z 3", "piece z n 5", "piece n x 1/2", "push m n 4"]
        beside = ["piece base x 1", "piece y base 2", "piece z y 1/3", "push base z 7"]
        first = told_rows(beside + inside)
        rows = told_rows(inside).say("smaller z x y").split("; ")
        second = told_rows(beside + rows)
        for name in ["base", "x", "y", "z"]:
            self.assertEqual(second.say(f"height {name}"), first.say(f"height {name}"))
        self.assertEqual(second.say("smaller base x y z"), first.say("smaller base x y z"))

    def test_smaller_with_names_of_points_put_in(self):
        desk = told_rows(["part p a", "piece a m 1", "piece m n 2", "done", "put s p x"])
        self.assertEqual(desk.say("smaller s.n x"), "piece s.n x 3")
        with self.assertRaises(NoName):
            Desk().say("piece s.n x 3")

    def test_whole_names(self):
        desk = told_rows(["part p a b", "piece a m 1", "piece m b 2", "done", "part q a b", "put r p a b", "done",
                          "hold base x 3", "put s q base x"])
        self.assertEqual(desk.say("height s.r.m"), "-1")
        self.assertEqual(desk.say("fall s.r.m x"), "2")
        self.assertEqual(desk.say("between s.r.m s.r.m"), "0")
        for name in ["m", "s.m", "r.m", "s.r", "s", "a", "s.r.a", "s.r.m.", ".s.r.m"]:
            with self.assertRaises(NoName):
                desk.say(f"height {name}")

    def test_in_an_open_part(self):
        asked = ["height c", "fall a b", "between a c", "waste", "stream 2", "floats"]
        desk = told_rows(YARD)
        kept = [desk.say(row) for row in asked]
        for row in ["part p a c", "piece a d 1", "push c d 9"]:
            desk.say(row)
        self.assertEqual([desk.say(row) for row in asked], kept)
        with self.assertRaises(NoName):
            desk.say("height d")
        with self.assertRaises(NoRow):
            desk.say("stream 5")
        self.assertEqual(desk.say("change 0 5"), "ok")
        self.assertEqual(desk.say("fall a b"), "5")
        self.assertEqual(desk.say("done"), "ok")
        self.assertEqual(desk.say("put s p b a"), "ok")
        self.assertEqual(desk.say("stream 6"), "9")

    def test_changes_change_no_part(self):
        desk = told_rows(["part p a b", "piece a b 2", "done", "put s p x y", "push x y 1"])
        desk.say("change 0 5")
        self.assertEqual(desk.say("between x y"), "5")
        desk.say("put t p y z")
        self.assertEqual(desk.say("between y z"), "2")

    def test_as_the_program_told_by_numbers(self):
        nets = Nets(81)
        for net in nets.many_answered():
            if net.count() == 0 or net.count() == 40:
                continue
            names = ["p" + "abcdefghijkl"[point] for point in range(net.many())]
            desk = Desk()
            for row in [("piece", 0, 0, (1, 1))] + net.told():
                desk.say(f"{row[0]} {names[row[1]]} {names[row[2]]} {show(row[3])}")
            answer = Answer(net)
            for point, name in enumerate(names):
                self.assertEqual(desk.say(f"height {name}"), show(answer.heights()[point]))
            for number, stream in enumerate(answer.streams()):
                self.assertEqual(desk.say(f"stream {number + 1}"), show(stream))
            a, b = nets.chance.randrange(net.many()), nets.chance.randrange(net.many())
            self.assertEqual(desk.say(f"fall {names[a]} {names[b]}"), show(answer.fall(a, b)))
            self.assertEqual(desk.say(f"between {names[a]} {names[b]}"), show(between(net, a, b)))
            self.assertEqual(desk.say("waste"), show(waste(net, answer.streams())))
            self.assertEqual((desk.say("floats"), floating(net)), ("none", []))


class WrittenOut(unittest.TestCase):
    def short(self, text):
        return text.replace(".", "")

    def check(self, desk, written, rows):
        for row in rows:
            self.assertEqual(self.short(str(come_of(desk, row))), self.short(str(come_of(written, self.short(row)))), row)

    def rows(self):
        names = ["x", "base", "s.k", "s.l.m", "s.r.m", "y", "t.m"]
        rows = [f"height {name}" for name in names] + [f"stream {k}" for k in range(12)] + ["waste", "floats"]
        rows += [f"{word} {a} {b}" for word in ["fall", "between", "smaller"] for a in names for b in names]
        rows += ["smaller base t.m s.k x", "smaller s.l.m", "smaller y s.r.m x", "height s.q.m", "height l.m"]
        return rows

    def test_parts_within_parts(self):
        desk, written = told_rows(PARTS), told_rows(WRITTEN)
        self.check(desk, written, self.rows())
        for change in ["change 1 5", "change 5 -2/7", "change 9 1/4"]:
            self.check(desk, written, [change])
        self.check(desk, written, self.rows())

    def test_with_a_hold(self):
        desk, written = told_rows(PARTS), told_rows(WRITTEN)
        self.check(desk, written, ["hold y x 3"] + self.rows())
        self.check(desk, written, ["hold y x 3"] + self.rows())

    def test_with_points_that_float(self):
        desk, written = told_rows(PARTS), told_rows(WRITTEN)
        self.check(desk, written, ["push q y 3"] + self.rows() + ["height q", "smaller q x", "smaller q"])


class Refused(unittest.TestCase):
    def check(self, kind, desk, row):
        asked = ["floats", "waste", "height a", "stream 0", "smaller a"]
        kept = [come_of(desk, question) for question in asked]
        for turn in range(2):
            with self.assertRaises(kind) as caught:
                desk.say(row)
        self.assertEqual([come_of(desk, question) for question in asked], kept)
        return caught.exception

    def desks(self):
        return [Desk(), told_rows(YARD), told_rows(YARD + ["part p x"]), told_rows(["hold a a 1"]), told_rows(["push a b 1"])]

    def test_no_text(self):
        for desk in self.desks():
            for thing in NO_TEXTS:
                self.check(NoRow, desk, thing)

    def test_no_form(self):
        for desk in self.desks():
            for row in [
                "", " ", "  ", "height", "height a b", "height  a", "height a ", " height a", "fall", "fall a", "fall a b c",
                "fall a b ", "between", "between a", "between a b c", "waste a", "waste ", " waste", "stream", "stream 0 1",
                "stream 0 ", "change", "change 0", "change 0 1 2", "change 0 1 ", "floats a", "floats ", "smaller", "Height a",
                "heights a", "ok", "none", "a", "piece", "piece a b", "piece a b 1 2", "part p", "put s p", "done x", "waste\n",
                "names", "net", "tell piece a b 1", "say waste",
            ]:
                self.check(NoRow, desk, row)

    def test_no_number_of_a_row(self):
        for desk in self.desks():
            for k in ["5", "6", "10", "40", "99", "-1", "-0", "+1", "00", "01", "04", "000", "0000000", "100", "1" * 300, "a",
                      "", "1/2", "1.0", "0x1", "\u0661", "\u00b2", "1\n", "0\t", "one", "_1", "1_0"]:
                self.check(NoRow, desk, f"stream {k}")
                self.check(NoRow, desk, f"change {k} 1")
                self.check(NoRow, desk, f"change {k} x")
                self.check(NoRow, desk, f"change {k} 0")

    def test_the_count_of_rows(self):
        desk = Desk()
        for count in range(12):
            with self.assertRaises(NoRow):
                desk.say(f"stream {count}")
            desk.say("piece a b 1")
            self.assertEqual(desk.say(f"stream {count}"), "0")
            self.assertEqual(desk.say(f"change {count} 2"), "ok")

    def test_without_points(self):
        for desk in [Desk(), told_rows(["part p a", "piece a b 1"]), told_rows(["part p a", "piece a b 1", "done"])]:
            for row in ["height a", "height A", "height ", "fall a b", "fall A b", "between a b", "between a ", "waste",
                        "floats", "smaller a", "smaller a a", "smaller A b"]:
                self.check(NoPoint, desk, row)
            for row in ["stream 0", "stream x", "change 0 1", "change 0 x", "change x 0", "height", "waste a", "smaller"]:
                self.check(NoRow, desk, row)
            for row in ["piece a B 1", "put s q a"]:
                self.check(NoName, desk, row)

    def test_no_name(self):
        for desk in [told_rows(YARD), told_rows(YARD + ["hold a a 1"]), told_rows(YARD + ["push a d 1"])]:
            for name in ["e", "A", "", "aa", "a.b", "s.a", "1", "a\n", "base", "abcdefghi"]:
                for row in [f"height {name}", f"fall {name} a", f"fall a {name}", f"between {name} a", f"between b {name}",
                            f"smaller {name}", f"smaller a b {name}", f"smaller {name} a"]:
                    self.check(NoName, desk, row)
            for row in ["smaller a a", "smaller a b c b", "smaller c c c"]:
                self.check(NoName, desk, row)

    def test_change(self):
        desk = told_rows(YARD)
        for size in ["", "a", "2/4", "3/1", "4/0", "-0", "01", "+1", "1.5", "1/", "1\n", "1" * 201, "0/1"]:
            for k in range(5):
                self.check(NoNumber, desk, f"change {k} {size}")
        for size in ["0", "-1", "-2/3"]:
            self.check(NoSize, desk, f"change 1 {size}")
            self.check(NoSize, desk, f"change 4 {size}")
            desk.say(f"change 0 {size}")
            desk.say(f"change 3 {size}")

    def test_change_asks_for_no_answer(self):
        for rows in [["hold a a 1"], ["push a b 1"]]:
            self.assertEqual(told_rows(rows).say("change 0 7/3"), "ok")

    def test_ring(self):
        desk = told_rows(["hold a b 5", "push a c 1", "hold a b 3"])
        for row in ["height a", "fall a b", "between a b", "between c c", "waste", "stream 1"]:
            refusal = self.check(Ring, desk, row)
            self.assertEqual((refusal.ring, refusal.total), ([(2, 1), (0, -1)], (-2, 1)))

    def test_floats(self):
        desk = told_rows(["piece a b 5", "push a c 1", "piece d e 3"])
        for row in ["height a", "fall a b", "between a b", "between c c", "waste", "stream 1"]:
            self.assertEqual(self.check(Floats, desk, row).points, [2, 3, 4])
        self.assertEqual(self.check(Floats, desk, "smaller a").points, [2, 3, 4])
        self.assertEqual(self.check(Floats, desk, "smaller b d").points, [2])
        self.assertEqual(self.check(Floats, desk, "smaller c").points, [0, 1, 3, 4])
        self.assertEqual(desk.say("smaller c a e"), "push c a -1")

    def test_held(self):
        desk = told_rows(["piece a b 5", "hold a a 1", "push b c 1", "hold a b 2"])
        for row in ["smaller a", "smaller b a", "smaller a b c"]:
            self.assertEqual(self.check(Held, desk, row).number, 1)
        self.check(NoName, desk, "smaller b b")

    def test_too_many(self):
        names = ["a", "b", "c", "d", "e", "f", "g", "h", "i", "j"]
        desk = told_rows([f"piece {name} m 1" for name in names])
        refusal = self.check(TooMany, desk, "smaller " + " ".join(names))
        self.assertIsInstance(refusal, TooMany)
        self.assertEqual(len(desk.say("smaller " + " ".join(names[:9])).split("; ")), 36)

    def test_a_yards_rows(self):
        full = told_rows(["piece a b 1"] * 40)
        for kind, row in [(NoName, "piece A b 1"), (NoNumber, "piece a b x"), (NoSize, "piece a b 0"), (TooMany, "piece a b 1"),
                          (NoRow, "done"), (NoName, "put s p a"), (NoName, "part p a a")]:
            self.check(kind, full, row)

    def test_what_is_refused_may_be_told_later(self):
        desk = Desk()
        self.check(NoPoint, desk, "height a")
        self.check(NoRow, desk, "change 0 1")
        desk.say("push a b 3")
        self.check(Floats, desk, "height b")
        desk.say("piece b a 2")
        self.assertEqual(desk.say("height b"), "6")
        self.assertEqual(desk.say("change 0 1"), "ok")
        self.assertEqual(desk.say("height b"), "2")


class Apart(unittest.TestCase):
    def test_asked_twice(self):
        desk = told_rows(PARTS)
        for row in ["height s.k", "fall x y", "between x y", "waste", "stream 3", "floats", "smaller x y base"]:
            first = desk.say(row)
            self.assertIs(type(first), str)
            self.assertEqual(desk.say(row), first)

    def test_desks_go_their_own_ways(self):
        first, second = told_rows(YARD), told_rows(YARD)
        first.say("change 0 1")
        first.say("piece c d 1")
        self.assertEqual((first.say("fall a b"), second.say("fall a b")), ("1", "12"))
        with self.assertRaises(NoName):
            second.say("height d")


if __name__ == "__main__":
    unittest.main()
