"""Point 50: texts written and read."""

import re
import unittest
from fractions import Fraction
from itertools import product

from exactlines import CLOSED, GREAT, OPEN
from measure import at, places
from things import FRACTIONS
from widelines.errors import NoText
from widelines.lines import is_line, is_rule
from widelines.texts import fraction_text, line_text, place_text, read_line, read_rule, rule_text
from widelines.turning import ring_sum

FIGURES = "(?:0|[1-9][0-9]{0,3})"
FRACTION = re.compile(f"(-?)({FIGURES})(?:/({FIGURES}))?")

# Each can't stand where a fraction is wanted.
NO_FRACTIONS = (
    "", "-", "/", "+1", "--1", "1-", "-0", "00", "01", "-01", "007", "1/1", "5/1", "-5/1", "0/1", "0/2", "-0/2", "2/4", "4/2",
    "9/3", "1/0", "0/0", "1/-2", "1/+2", "1/02", "1/", "/2", "-/2", "1//2", "1/2/3", "10000", "-10000", "1/10000", "10001/2",
    "-1/99999", "1.5", "1e2", "1_0", "x", "a1", "1a", "0x1", "one", "1,2", "1:2", "1;2", "1/2-", "~", "!", "'1'", "(1)",
)
GOOD_FRACTIONS = (
    ("0", (0, 1)), ("1", (1, 1)), ("-1", (-1, 1)), ("3", (3, 1)), ("10", (10, 1)), ("9999", (9999, 1)), ("-9999", (-9999, 1)),
    ("-3/2", (-3, 2)), ("1/2", (1, 2)), ("9999/9998", (9999, 9998)), ("-1/9999", (-1, 9999)), ("7/10", (7, 10)),
    ("1000/1001", (1000, 1001)),
)


def fraction_of(word):
    """The Fraction that a word writes, or None; by a pattern of signs."""
    found = FRACTION.fullmatch(word)
    if found is None:
        return None
    sign, top, bottom = found.groups()
    if sign and top == "0" or bottom in ("0", "1"):
        return None
    told = Fraction(int(sign + top), int(bottom or 1))
    written = str(told.numerator) if told.denominator == 1 else f"{told.numerator}/{told.denominator}"
    return told if written == word else None


def words_by_hand(alphabet, most):
    for many in range(most + 1):
        for signs in product(alphabet, repeat=many):
            yield "".join(signs)


class TestWritten(unittest.TestCase):
    def test_fractions(self):
        for text, one in GOOD_FRACTIONS:
            self.assertEqual(fraction_text(one), text)
        self.assertEqual(fraction_text((10**29, 3)), "1" + "0" * 29 + "/3")
        for one in FRACTIONS:
            told = fraction_text(one)
            self.assertIs(type(told), str)
            self.assertEqual(told, str(Fraction(*one)))

    def test_fractions_of_any_size(self):
        for many in (59, 60, 61, 119, 120, 121, 4300, 4301, 9000):
            self.assertEqual(fraction_text((10**many, 1)), "1" + "0" * many)
            self.assertEqual(fraction_text((1 - 10**many, 1)), "-" + "9" * many)
            self.assertEqual(fraction_text((10**many + 1, 10**many)), "1" + "0" * (many - 1) + "1/1" + "0" * many)
        ring = tuple((k * k, k, 10**119 + 2 * k + 1) for k in range(60))
        told = ring_sum((ring,))
        self.assertGreater(told[1], 10**5000)
        top, slash, bottom = fraction_text(told).partition("/")
        for text, number in ((top, told[0]), (bottom, told[1])):
            read = 0
            for figure in text.lstrip("-"):
                read = read * 10 + int(figure)
            self.assertEqual(read, abs(number))

    def test_places(self):
        for one, text in (
            ((0, 0, 1), "0,0"), ((3, -4, 1), "3,-4"), ((3, 2, 6), "1/2,1/3"), ((-3, 4, 2), "-3/2,2"), ((0, 1, 2), "0,1/2"),
            ((GREAT, 1, 3), "1" + "0" * 29 + "/3,1/3"), ((2, 3, 4), "1/2,3/4"),
        ):
            self.assertEqual(place_text(one), text)

    def test_lines(self):
        for line, text in (
            ((False, places((0, 0), (10, 0), (10, 10))), "open 0,0 10,0 10,10"),
            ((True, ((0, 0, 1), (3, 0, 2), (0, -1, 3))), "closed 0,0 3/2,0 0,-1/3"),
            ((False, places((0, 0), (1, 1))), "open 0,0 1,1"),
        ):
            self.assertEqual(line_text(line), text)
            self.assertEqual(read_line(text), line)

    def test_rules(self):
        for rule, text in (
            (((1, 2), "both", "cut", "pointed", (2, 1)), "wide 1/2 both cut pointed 2"),
            (((3, 1), "left", "round", "round", (5, 4)), "wide 3 left round round 5/4"),
            (((GREAT, 7), "right", "square", "cut", (1, 1)), "wide 1" + "0" * 29 + "/7 right square cut 1"),
        ):
            self.assertEqual(rule_text(rule), text)

    def test_written_and_read(self):
        for line in OPEN + CLOSED:
            if all(abs(number) < 10000 for one in line[1] for number in one):
                told = read_line(line_text(line))
                self.assertEqual(told, line)
                self.assertIs(is_line(told), True)
        for half, side, ending, joining, bound in product(
            ((1, 1), (1, 9999), (9998, 9999)), ("both", "left", "right"), ("cut", "square", "round"),
            ("cut", "pointed", "round"), ((1, 1), (9999, 9998), (9999, 1)),
        ):
            rule = (half, side, ending, joining, bound)
            told = read_rule(rule_text(rule))
            self.assertEqual(told, rule)
            self.assertIs(is_rule(told), True)


class TestRead(unittest.TestCase):
    def refused(self, ask, text, word):
        with self.assertRaises(NoText, msg=text) as taken:
            ask(text)
        self.assertEqual(taken.exception.word, word, text)
        self.assertIs(type(taken.exception.word), int)


class TestReadLine(TestRead):
    def test_words_that_write_places(self):
        for (text, x), (other, y) in product(GOOD_FRACTIONS, GOOD_FRACTIONS):
            one = at(Fraction(*x), Fraction(*y))
            self.assertEqual(read_line(f"open {text},{other} 77,5/7"), (False, (one, at(77, Fraction(5, 7)))))

    def test_words_that_write_none(self):
        for word in NO_FRACTIONS:
            for text in (f"{word},0", f"0,{word}", f"{word},{word}", f"1/2,{word}"):
                self.refused(read_line, f"open {text} 1,0", 1)
                self.refused(read_line, f"open 5,5 {text}", 2)
                self.refused(read_line, f"closed 5,5 6,5 {text} 7,7", 3)

    def test_forms_of_a_place(self):
        for word in ("", ",", "1", "1,", ",1", "1,2,3", "1,2,", ",1,2", "1,,2", "1;2", "(1,2)", "1.2", "1/2", "open", "1,2;"):
            self.refused(read_line, f"open {word} 9,8", 1)
            self.refused(read_line, f"open 9,8 {word}", 2)

    def test_each_short_word(self):
        for word in words_by_hand("0126-/", 5):
            x = fraction_of(word)
            if x is None:
                self.refused(read_line, f"open {word},0 77,0", 1)
                self.refused(read_line, f"open 77,0 0,{word}", 2)
            else:
                self.assertEqual(read_line(f"open {word},0 77,0"), (False, (at(x, 0), at(77, 0))))
                self.assertEqual(read_line(f"open 77,0 0,{word}"), (False, (at(77, 0), at(0, x))))

    def test_first_word(self):
        for word in ("", "Open", "OPEN", "opened", "close", "wide", "0,0", "open,", "-", "true"):
            self.refused(read_line, f"{word} 0,0 1,0", 0)
            self.refused(read_line, f"{word} x y", 0)
            self.refused(read_line, word, 0)

    def test_words_lacking(self):
        self.refused(read_line, "", 0)
        self.refused(read_line, "open", 1)
        self.refused(read_line, "closed", 1)
        self.refused(read_line, "open 0,0", 2)
        self.refused(read_line, "closed 0,0", 2)
        self.refused(read_line, "closed 0,0 1,0", 3)

    def test_blanks(self):
        for text, word in (
            (" ", 0), ("  ", 0), (" open 0,0 1,0", 0), ("open ", 1), ("open  0,0 1,0", 1), ("open 0,0  1,0", 2),
            ("open 0,0 1,0 ", 3), ("open 0,0 1,0  ", 3), ("open 0,0 ", 2), ("closed 0,0 1,0 ", 3), ("open   ", 1),
        ):
            self.refused(read_line, text, word)

    def test_the_tenth_place(self):
        row = [f"{k},{k * k}" for k in range(14)]
        self.assertEqual(len(read_line(" ".join(["open"] + row[:9]))[1]), 9)
        self.assertEqual(len(read_line(" ".join(["closed"] + row[:8]))[1]), 8)
        for many in range(10, 15):
            self.refused(read_line, " ".join(["open"] + row[:many]), 10)
            self.refused(read_line, " ".join(["closed"] + row[:many]), 10)
        self.refused(read_line, " ".join(["open"] + row[:9] + ["x"]), 10)
        self.refused(read_line, " ".join(["open"] + row[:9] + [""]), 10)
        self.refused(read_line, " ".join(["open"] + row[:8] + ["x"] + row[:4]), 9)
        self.refused(read_line, " ".join(["open"] + row[:10] + ["x"]), 10)
        # It is refused ahead of what makes the places no line.
        self.refused(read_line, " ".join(["open"] + ["0,0"] * 12), 10)

    def test_a_closed_one_of_nine_places(self):
        # No word of it can't stand, but it is no line.
        self.refused(read_line, " ".join(["closed"] + [f"{k},{k * k}" for k in range(9)]), 9)

    def test_no_line(self):
        for text in (
            "open 0,0 0,0", "open 0,0 1,0 1,0", "open 0,0 1,0 2,0", "open 5,5 0,0 1,2 3,6", "closed 0,0 1,0 0,0",
            "closed 0,0 0,0 1,0", "closed 0,0 1,0 2,0 0,5", "closed 1,0 2,0 0,5 0,0", "closed 0,0 2,0 1,0",
            "open 0,0 1/3,1/3 1/2,1/2", "open 0,0 0,0 0,0 0,0 0,0 0,0 0,0 0,0 0,0",
        ):
            self.refused(read_line, text, len(text.split()) - 1)
        self.assertEqual(read_line("open 0,0 3,0 1,0"), (False, places((0, 0), (3, 0), (1, 0))))

    def test_which_goes_ahead(self):
        # A word that can't stand goes ahead of too few, too few ahead of no line.
        self.refused(read_line, "closed 0,0 x", 2)
        self.refused(read_line, "open x", 1)
        self.refused(read_line, "closed 0,0 0,0", 3)
        self.refused(read_line, "open 0,0 0,0 x y", 3)
        self.refused(read_line, "shut x", 0)

    def test_lines_that_are_not_exact(self):
        self.assertEqual(read_line("open 0,0 1,1"), (False, places((0, 0), (1, 1))))

    def test_other_texts(self):
        for text in ("wide 1 both cut cut 1", "~", "()", "None", "0", "\"open\" 0,0 1,0", "'"):
            self.refused(read_line, text, 0)


class TestReadRule(TestRead):
    WORDS = ("wide", "3/2", "left", "square", "pointed", "7/5")

    def test_read(self):
        self.assertEqual(read_rule(" ".join(self.WORDS)), ((3, 2), "left", "square", "pointed", (7, 5)))

    def bent(self, number, word):
        return " ".join(self.WORDS[:number] + (word,) + self.WORDS[number + 1:])

    def test_each_word(self):
        others = (
            ("", "Wide", "wider", "open", "1"),
            NO_FRACTIONS + ("0", "-1", "-1/2", "-9999", "left", "wide"),
            ("", "Left", "cut", "up", "round", "1", "square"),
            ("", "Cut", "pointed", "both", "left", "1", "wide"),
            ("", "Cut", "square", "both", "left", "1", "wide"),
            NO_FRACTIONS + ("0", "-1", "1/2", "-2", "9998/9999", "cut"),
        )
        for number, words in enumerate(others):
            for word in words:
                self.refused(read_rule, self.bent(number, word), number)
                # The first one counts, whatever comes behind it or lacks.
                self.refused(read_rule, " ".join(self.WORDS[:number] + (word,)), number)
                self.refused(read_rule, " ".join(self.WORDS[:number] + (word, "x", "y")), number)

    def test_each_short_word(self):
        for word in words_by_hand("0126-/", 5):
            one = fraction_of(word)
            for number, let in ((1, one is not None and one > 0), (5, one is not None and one >= 1)):
                if let:
                    told = read_rule(self.bent(number, word))
                    self.assertEqual(told[number - 1], (one.numerator, one.denominator))
                    self.assertEqual(rule_text(told), self.bent(number, word))
                else:
                    self.refused(read_rule, self.bent(number, word), number)

    def test_words_lacking(self):
        self.refused(read_rule, "", 0)
        for many in range(1, 6):
            self.refused(read_rule, " ".join(self.WORDS[:many]), many)

    def test_words_too_many(self):
        text = " ".join(self.WORDS)
        for word in ("", "1", "7/5", "wide", "cut", "x", "1 1 1", text):
            self.refused(read_rule, text + " " + word, 6)

    def test_blanks(self):
        text = " ".join(self.WORDS)
        self.refused(read_rule, " ", 0)
        self.refused(read_rule, " " + text, 0)
        self.refused(read_rule, text + " ", 6)
        self.refused(read_rule, text + "  ", 6)
        for number in range(1, 6):
            self.refused(read_rule, " ".join(self.WORDS[:number] + ("",) + self.WORDS[number:]), number)
        self.refused(read_rule, "wide ", 1)

    def test_figures(self):
        self.assertEqual(read_rule("wide 1/9999 both cut cut 9999"), ((1, 9999), "both", "cut", "cut", (9999, 1)))
        self.refused(read_rule, "wide 1/10000 both cut cut 9999", 1)
        self.refused(read_rule, "wide 1/9999 both cut cut 10000", 5)
        self.refused(read_rule, "wide 10000 both cut cut 2/4", 1)


if __name__ == "__main__":
    unittest.main()
