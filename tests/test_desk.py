"""Point 52: a desk."""

import unittest
from fractions import Fraction
from itertools import product

from widelines.changes import changed_line, changed_rule, other_side, turned_about
from widelines.desk import Desk
from widelines.errors import NoRow, NoText, TooMany, WideError
from widelines.marks import mark_lengths
from widelines.measuring import line_length
from widelines.outlines import outline
from widelines.putback import is_plain
from widelines.shapes import in_area
from widelines.texts import fraction_text, line_text, read_line, read_rule, rule_text
from widelines.turning import ring_sum
from widelines.widening import widened

LINE = "open 0,0 10,0 10,10"
RULE = "wide 1 both cut pointed 2"
LINES = (
    LINE,
    "open 0,0 10,0",
    "open 1/2,1/2 3/2,1/2 9/2,9/2",
    "open 0,0 10,0 4,0",
    "open 0,0 20,0 20,10 10,10 10,-10",
    "closed 0,0 12,0 12,12 0,12",
    "closed 0,0 3,0 0,4",
    "closed 0,0 5,0 0,0 0,5",
)
RULES = (
    RULE,
    "wide 1/2 left round round 1",
    "wide 3/2 right square cut 4/3",
    "wide 2 both square pointed 3/2",
    "wide 1/3 both cut pointed 4/3",
)
WORDS = ("shapes", "area", "rings", "length", "line", "rule", "back", "quarter", "mirror", "turn")


def desks():
    for line, rule in product(LINES, RULES):
        yield Desk(line, rule), read_line(line), read_rule(rule)


class TestMade(unittest.TestCase):
    def refused(self, line, rule, word):
        with self.assertRaises(NoText) as taken:
            Desk(line, rule)
        self.assertEqual(taken.exception.word, word)

    def test_of_any_texts(self):
        for desk, line, rule in desks():
            self.assertEqual(desk.say("line"), line_text(line))
            self.assertEqual(desk.say("rule"), rule_text(rule))

    def test_the_lines_text_goes_ahead(self):
        self.refused("open 0,0 x", RULE, 2)
        self.refused("", RULE, 0)
        self.refused("open 0,0 x", "wide 1 up", 2)
        self.refused("open 0,0 0,0 0,0", "narrow", 3)
        self.refused("closed 0,0 1,0", "narrow", 3)

    def test_the_rules_text(self):
        self.refused(LINE, "", 0)
        self.refused(LINE, "wide 1 both cut", 4)
        self.refused(LINE, RULE + " 1", 6)
        self.refused(LINE, "wide 0 both cut cut 1", 1)

    def test_a_line_that_is_not_exact(self):
        self.refused("open 0,0 1,1", RULE, 0)
        self.refused("open 0,0 3,4 4,5", RULE, 0)
        self.refused("closed 0,0 3,0 0,3", RULE, 0)
        # Behind the rule's own refusals.
        self.refused("open 0,0 1,1", "wide 1 both cut up", 4)
        self.refused("open 0,0 1,1", "wide 1 both", 3)

    def test_texts_exchanged(self):
        self.refused(RULE, LINE, 0)


class TestAnswers(unittest.TestCase):
    def asked(self, line, rule, row):
        told = Desk(line, rule).say(row)
        self.assertIs(type(told), str)
        return told

    def test_by_hand(self):
        for row, wanted in (
            ("shapes", "3"), ("in 5,5", "no"), ("in 5,1", "yes"), ("in 0,0", "yes"), ("in -1/9,0", "no"), ("in 11,-1", "yes"),
            ("area", "40"), ("rings", "1 6"), ("length", "20"), ("marks 0 3 2", "0:3 5:8 10:13 15:18"),
            ("marks 1/2 3 7", "0:5/2 19/2:25/2 39/2:20"), ("marks 1 1 100", "-"), ("back", "yes"),
            ("move 0 0", "ok"), ("quarter", "ok"), ("mirror", "ok"), ("scale 1", "ok"), ("turn", "ok"),
            ("line", LINE), ("rule", RULE),
        ):
            self.assertEqual(self.asked(LINE, RULE, row), wanted, row)

    def test_more_by_hand(self):
        square = "closed 0,0 12,0 12,12 0,12"
        self.assertEqual(self.asked(square, RULE, "rings"), "2 4 4")
        self.assertEqual(self.asked(square, RULE, "area"), "96")
        self.assertEqual(self.asked(square, RULE, "shapes"), "8")
        self.assertEqual(self.asked(square, "wide 1/3 left cut cut 1", "area"), "140/9")
        self.assertEqual(self.asked(square, RULE, "length"), "48")
        self.assertEqual(self.asked(square, RULE, "back"), "no")
        self.assertEqual(self.asked(square, RULE, "marks 5 10 30"), "0:5 35:45")
        self.assertEqual(self.asked("open 0,0 3/2,2", RULE, "length"), "5/2")
        self.assertEqual(self.asked("open 0,0 3/2,2", "wide 1/2 both cut cut 1", "back"), "no")
        self.assertEqual(self.asked("open 0,0 10,0 4,0", RULE, "back"), "no")

    def test_as_the_package_tells(self):
        for desk, line, rule in desks():
            shapes = widened(line, rule)
            rings = outline(shapes)
            self.assertEqual(desk.say("shapes"), str(len(shapes)))
            self.assertEqual(desk.say("area"), fraction_text(ring_sum(rings)))
            self.assertEqual(desk.say("rings"), " ".join(str(many) for many in [len(rings), *map(len, rings)]))
            self.assertEqual(desk.say("length"), fraction_text(line_length(line)))
            self.assertEqual(desk.say("back"), "yes" if not line[0] and is_plain(line, rule) else "no")
            for x, y in product(range(-2, 13, 3), range(-2, 13, 2)):
                wanted = "yes" if in_area(shapes, (x, y, 1)) else "no"
                self.assertEqual(desk.say(f"in {x},{y}"), wanted)
            for x, y, text in ((1, 3, "in 1/2,3/2"), (-1, 1, "in -1/2,1/2"), (19, 5, "in 19/2,5/2")):
                self.assertEqual(desk.say(text), "yes" if in_area(shapes, (x, y, 2)) else "no")

    def test_marks(self):
        for desk, line, rule in desks():
            for offset, pattern in (
                ("0", "1 1"), ("1/2", "3 2"), ("399/4", "1/2 1/2"), ("5", "1 2 3 4"), ("7", "1 1 1 1 1/2 6"),
                ("0", "1 2 1 2 1 2 1 2"), ("1", "1 999"), ("0", "9999 1"),
            ):
                told = mark_lengths(line, tuple(fractions(pattern)), fractions(offset)[0])
                wanted = " ".join(f"{fraction_text(begin)}:{fraction_text(end)}" for begin, end in told) or "-"
                self.assertEqual(desk.say(f"marks {offset} {pattern}"), wanted)

    def test_nothing_hangs_on_what_was_asked(self):
        desk = Desk(LINE, RULE)
        rows = ["shapes", "in 1,1", "area", "rings", "length", "marks 1 2 3", "line", "rule", "back"]
        first = [desk.say(row) for row in rows]
        self.assertEqual([desk.say(row) for row in reversed(rows)], first[::-1])


def fractions(text):
    return [(number.numerator, number.denominator) for number in map(Fraction, text.split())]


class TestTooMany(unittest.TestCase):
    def test_marks(self):
        desk = Desk("open 0,0 10,0", RULE)
        self.assertEqual(len(desk.say("marks 0 1/40 1/40").split()), 200)
        for row in ("marks 1/80 1/40 1/40", "marks 0 1/9999 1/9999", "marks 0 1/41 1/40"):
            with self.assertRaises(TooMany) as taken:
                desk.say(row)
            self.assertEqual(taken.exception.word, "marks")
        self.assertEqual(desk.say("line"), "open 0,0 10,0")
        self.assertEqual(desk.say("rule"), RULE)

    def test_no_row_goes_ahead(self):
        desk = Desk("open 0,0 10,0", RULE)
        for row in ("marks 0 1/9999 1/9999 1/9999", "marks 0 1/9999 1/9999 x", "marks 5 1/9999 1/9999", "marks 0 1/9999 0"):
            with self.assertRaises(NoRow):
                desk.say(row)


class TestNoRow(unittest.TestCase):
    def setUp(self):
        self.desk = Desk(LINE, RULE)

    def refused(self, row):
        with self.assertRaises(NoRow, msg=row) as taken:
            self.desk.say(row)
        self.assertIsInstance(taken.exception, WideError)
        self.assertEqual(self.desk.say("line"), LINE, row)
        self.assertEqual(self.desk.say("rule"), RULE, row)

    def test_words_alone(self):
        for word in WORDS:
            for row in (
                word + " ", " " + word, word + " 1", word + "  ", word.upper(), word + "s", word[:-1], word + " " + word,
                word + " 1,1", word + " 0 1 1", word + ",", "-" + word, word + " 1 1",
            ):
                if row not in WORDS:
                    self.refused(row)
        for row in ("", " ", "  ", "-", "0", "ok", "yes", "no", "open", "wide", LINE, RULE, "0,0", "split 1", "NoRow"):
            self.refused(row)

    def test_in(self):
        for row in (
            "in", "in ", "in 1", "in 1,", "in ,1", "in 1,2,3", "in 1,2 ", "in  1,2", " in 1,2", "in 1,2 3,4", "in 1 2", "in 1,2 3",
            "in 2/4,1", "in 1/1,1", "in 01,1", "in -0,1", "in 10000,1", "in 1,1/10000", "in x,y", "In 1,2", "in1,2", "in +1,2",
            "in 1/0,2", "in 1.5,2", "in -1,--1", "in (1,2)", "in 1/2/3,1", "on 1,2", "in in 1,2",
        ):
            self.refused(row)
        self.assertEqual(self.desk.say("in -9999/9998,9999"), "no")

    def test_move(self):
        for row in (
            "move", "move ", "move 1", "move 1 ", "move 1 2 3", "move 1,2", "move 1  2", "move 1 2 ", " move 1 2", "move x 1",
            "move 1 x", "move 2/4 1", "move 1 5/1", "move 01 1", "move 1 -0", "move 10000 1", "move 1 1/10000", "Move 1 2",
            "move 1 2,3", "move 1 1/0", "moved 1 2", "move +1 2",
        ):
            self.refused(row)

    def test_scale(self):
        for row in (
            "scale", "scale ", "scale 0", "scale -1", "scale -1/2", "scale 2/4", "scale 2/1", "scale 1 2", "scale 1 ", "scale  1",
            " scale 1", "scale 10000", "scale 1/10000", "scale x", "scale 1,1", "scale 02", "scale -0", "Scale 2", "scales 2",
        ):
            self.refused(row)

    def test_marks(self):
        for row in (
            "marks", "marks ", "marks 0", "marks 0 1", "marks 1 1", "marks 0 1 1 1", "marks 0 1 1 1 1 1", "marks 0 1 1 ",
            "marks  0 1 1", "marks 0  1 1", " marks 0 1 1", "marks 0 1 1 1 1 1 1 1", "marks 0 1 1 1 1 1 1 1 1 1",
            "marks 0 1 1 1 1 1 1 1 1 1 1", "marks 0 1 0", "marks 0 0 1", "marks 0 -1 1", "marks 0 1 -1", "marks -1 1 1",
            "marks -1/9 1 1", "marks x 1 1", "marks 0 x 1", "marks 0 1 x", "marks 0 2/4 1", "marks 0 1 5/1", "marks 00 1 1",
            "marks -0 1 1", "marks 0 10000 1", "marks 0 1 1/10000", "marks 0,1 1 1", "marks 0 1,1", "marks 0:1 1 1", "mark 0 1 1",
            "Marks 0 1 1", "marks 0 1 1 0 1", "marks 0 1 1 1 0",
        ):
            self.refused(row)

    def test_the_offset_of_marks(self):
        self.assertEqual(self.desk.say("marks 1999/10 1 1"), "1/10:11/10 21/10:31/10 41/10:51/10 61/10:71/10 81/10:91/10 "
                         "101/10:111/10 121/10:131/10 141/10:151/10 161/10:171/10 181/10:191/10")
        for row in ("marks 200 1 1", "marks 201 1 1", "marks 2001/10 1 1", "marks 9999 1 1", "marks 1000 1 2 3 4"):
            self.refused(row)
        self.assertEqual(self.desk.say("marks 999 1 2 3 4"), "1:2 4:7 11:12 14:17")
        self.assertEqual(self.desk.say("marks 9999/10 1 2 3 4"), "1/10:11/10 31/10:61/10 101/10:111/10 131/10:161/10")


class TestChanges(unittest.TestCase):
    def test_each(self):
        for desk, line, rule in desks():
            for row, change in (
                ("move 1/2 -3", ("move", (1, 2), (-3, 1))),
                ("quarter", ("quarter",)),
                ("scale 3/2", ("scale", (3, 2))),
                ("mirror", ("mirror",)),
                ("move 0 5/7", ("move", (0, 1), (5, 7))),
                ("turn", None),
                ("scale 1/9", ("scale", (1, 9))),
            ):
                self.assertEqual(desk.say(row), "ok")
                if change is None:
                    line, rule = turned_about(line), other_side(rule)
                else:
                    line, rule = changed_line(change, line), changed_rule(change, rule)
                self.assertEqual(desk.say("line"), line_text(line))
                self.assertEqual(desk.say("rule"), rule_text(rule))
                self.assertEqual(desk.say("length"), fraction_text(line_length(line)))
            shapes = widened(line, rule)
            self.assertEqual(desk.say("shapes"), str(len(shapes)))
            self.assertEqual(desk.say("area"), fraction_text(ring_sum(outline(shapes))))

    def test_by_hand(self):
        desk = Desk("closed 0,0 3,0 0,4", "wide 1 left round round 2")
        for row, line, rule in (
            ("move 1 2", "closed 1,2 4,2 1,6", "wide 1 left round round 2"),
            ("quarter", "closed -2,1 -2,4 -6,1", "wide 1 left round round 2"),
            ("mirror", "closed 2,1 2,4 6,1", "wide 1 right round round 2"),
            ("scale 1/2", "closed 1,1/2 1,2 3,1/2", "wide 1/2 right round round 2"),
            ("turn", "closed 1,1/2 3,1/2 1,2", "wide 1/2 left round round 2"),
        ):
            self.assertEqual(desk.say(row), "ok")
            self.assertEqual(desk.say("line"), line)
            self.assertEqual(desk.say("rule"), rule)

    def test_back_after_changes(self):
        desk = Desk(LINE, RULE)
        for row in ("move 1/2 -3", "quarter", "mirror", "scale 7/3", "turn"):
            self.assertEqual(desk.say(row), "ok")
            self.assertEqual(desk.say("back"), "yes")
            self.assertEqual(desk.say("rings"), "1 6")

    def test_numbers_may_come_to_more_figures(self):
        desk = Desk(LINE, RULE)
        for count in range(5):
            desk.say("scale 9999")
        self.assertEqual(desk.say("length"), str(20 * 9999**5))
        self.assertEqual(desk.say("area"), str(40 * 9999**10))
        desk.say("move 1/9973 0")
        self.assertEqual((desk.say("in 0,0"), desk.say("in 1,0")), ("no", "yes"))
        self.assertEqual(desk.say("line").split()[1], "1/9973,0")

    def test_two_desks(self):
        one, other = Desk(LINE, RULE), Desk(LINE, RULE)
        one.say("scale 2")
        self.assertEqual(other.say("line"), LINE)
        self.assertEqual(other.say("rule"), RULE)
        other.say("mirror")
        self.assertEqual(one.say("line"), "open 0,0 20,0 20,20")
        self.assertEqual(other.say("line"), "open 0,0 -10,0 -10,10")
        third = Desk(LINE, RULE)
        self.assertEqual(third.say("line"), LINE)

    def test_a_desk_not_made_changes_nothing(self):
        desk = Desk(LINE, RULE)
        with self.assertRaises(NoText):
            Desk("open 0,0 1,1", RULE)
        self.assertEqual(desk.say("line"), LINE)


if __name__ == "__main__":
    unittest.main()
