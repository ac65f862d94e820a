"""The whole: points 5, 22, 33, 37 and 47, what is promised over several modules together."""

import unittest
from fractions import Fraction
from itertools import product

from exactlines import CLOSED, OPEN, by_chance, closed_by_chance
from measure import at, in_shape, on_piece, pair, places, spot
from widelines.changes import changed_line, changed_place, changed_rings, changed_rule, changed_shape
from widelines.changes import other_side, turned_about
from widelines.crossings import common, crossings
from widelines.joining import joined, split
from widelines.lines import pieces
from widelines.marks import mark_lengths, marks_of, part_of
from widelines.measuring import line_length, place_at
from widelines.meeting import lets_two, two_paper
from widelines.outlinechecker import lets_outline
from widelines.outlines import bare_parts, outline
from widelines.placepapers import lets_place, place_paper
from widelines.putback import is_plain, put_back
from widelines.shapes import in_area
from widelines.turning import ring_sum, turning
from widelines.widening import widened

SIDES = ("both", "left", "right")
ENDINGS = ("cut", "square", "round")
JOININGS = ("cut", "pointed", "round")
LINES = OPEN[:-1] + CLOSED + by_chance(5, 8, 6) + closed_by_chance(5, 6)
RULES = tuple(
    (((3, 2), (1, 3))[number % 2], side, ending, joining, (3, 2))
    for number, (side, ending, joining) in enumerate(product(SIDES, ENDINGS, JOININGS))
)
CHANGES = (
    ("quarter",), ("mirror",), ("move", (1, 2), (-7, 3)), ("scale", (2, 3)), ("scale", (5, 1)),
)
PATTERN = ((3, 2), (1, 1), (1, 3), (2, 1))


def some_pairs(ones, others, step):
    """Each of both with some of the others, not all with all."""
    return [pair_of for number, pair_of in enumerate(product(ones, others)) if number % step == 0]


def scaled(change, one):
    """A length as it is behind a change."""
    return pair(Fraction(*one) * Fraction(*change[1])) if change[0] == "scale" else one


class TestSides(unittest.TestCase):
    """Point 22: the shapes of side left and of side right together have the area of those of both."""

    def test_left_and_right_are_both(self):
        for line in LINES:
            for half, ending, joining in ((1, "cut", "pointed"), (2, "square", "cut"), (1, "round", "round")):
                both, left, right = (widened(line, (pair(half), side, ending, joining, (3, 2))) for side in SIDES)
                rings = outline(both)
                self.assertEqual(outline(left + right), rings, line)
                self.assertIs(lets_outline(left + right, rings), True)
                self.assertEqual(ring_sum(outline(left + right)), ring_sum(rings))

    def test_each_ending_and_joining(self):
        for line in LINES[2:8] + CLOSED[4:6]:
            for ending, joining in product(ENDINGS, JOININGS):
                both, left, right = (widened(line, ((1, 1), side, ending, joining, (4, 3))) for side in SIDES)
                self.assertEqual(outline(left + right), outline(both))


class TestOutlines(unittest.TestCase):
    """Points 5 and 33: the told outline is let by, turns about what belongs to the area, and its sum is the area."""

    def test_outlines_of_wide_lines(self):
        for line, rule in some_pairs(LINES, RULES, 7):
            shapes = widened(line, rule)
            rings = outline(shapes)
            self.assertIs(lets_outline(shapes, rings), True)
            parts = bare_parts(shapes)
            for one in self.some_places(shapes):
                told = turning(rings, one)
                on_part = any(on_piece(spot(a), spot(b), spot(one)) for a, b in parts)
                self.assertEqual(told, None if on_part else int(in_area(shapes, one)))

    def some_places(self, shapes):
        corners = [spot(one) for shape in shapes for one in shape]
        told = corners[::3] + [((a + c) / 2, (b + d) / 2) for (a, b), (c, d) in zip(corners[::2], corners[5::4])]
        return [at(*p) for p in told]

    def test_places_and_papers(self):
        for line, rule in some_pairs(LINES, RULES, 11):
            shapes = widened(line, rule)
            for one in self.some_places(shapes) + list(places((-40, 3), (2, 1), (Fraction(7, 2), 60))):
                paper = place_paper(shapes, one)
                self.assertIs(lets_place(shapes, one, paper), True)
                self.assertEqual(paper[0] == "in", any(in_shape(shape, spot(one)) for shape in shapes))
                self.assertEqual(paper[0] == "in", in_area(shapes, one))


class TestChanged(unittest.TestCase):
    """Point 47: what is told of a changed line is the changed one."""

    def test_shapes(self):
        for line, rule in some_pairs(LINES, RULES, 5):
            shapes = widened(line, rule)
            for change in CHANGES:
                told = widened(changed_line(change, line), changed_rule(change, rule))
                self.assertEqual(told, tuple(changed_shape(change, shape) for shape in shapes), (change, line, rule))

    def test_outlines(self):
        for line, rule in some_pairs(LINES, RULES, 17):
            rings = outline(widened(line, rule))
            for change in CHANGES:
                told = outline(widened(changed_line(change, line), changed_rule(change, rule)))
                self.assertEqual(told, changed_rings(change, rings), (change, line, rule))

    def test_parts_and_marks(self):
        for line, change in product(LINES, CHANGES):
            other = changed_line(change, line)
            whole = line_length(line)
            self.assertEqual(line_length(other), scaled(change, whole))
            pattern = tuple(scaled(change, one) for one in PATTERN)
            for offset in ((0, 1), (5, 4), (70, 3)):
                told = mark_lengths(other, pattern, scaled(change, offset))
                wanted = mark_lengths(line, PATTERN, offset)
                self.assertEqual(told, [tuple(scaled(change, one) for one in mark) for mark in wanted])
                told = marks_of(other, pattern, scaled(change, offset))
                self.assertEqual(told, [changed_line(change, mark) for mark in marks_of(line, PATTERN, offset)])
            for begin, end in ((0, 1), (Fraction(1, 3), Fraction(5, 6)), (Fraction(1, 2), 1)):
                low, high = (pair(Fraction(*whole) * share) for share in (begin, end))
                told = part_of(other, scaled(change, low), scaled(change, high))
                self.assertEqual(told, changed_line(change, part_of(line, low, high)))
                self.assertEqual(place_at(other, scaled(change, high)), changed_place(change, place_at(line, high)))

    def test_split_lines(self):
        for line, change in product(OPEN[:-1], CHANGES):
            length = pair(Fraction(*line_length(line)) * Fraction(2, 7))
            one, other = split(line, length)
            told = split(changed_line(change, line), scaled(change, length))
            self.assertEqual(told, (changed_line(change, one), changed_line(change, other)))
            self.assertEqual(joined(*told), changed_line(change, line))

    def test_crossings(self):
        for line, change in product(LINES, CHANGES):
            wanted = []
            for i, j, what in crossings(line):
                ends = sorted((changed_place(change, one) for one in what[1:]), key=spot)
                wanted.append((i, j, (what[0], *ends)))
            self.assertEqual(crossings(changed_line(change, line)), wanted)

    def test_plain_lines(self):
        many = 0
        for line, half in product(OPEN[:-1] + by_chance(38, 30, 5), ((1, 5), (1, 1))):
            rule = (half, "both", "cut", "pointed", (4, 1))
            if is_plain(line, rule):
                many += 1
                for change in CHANGES:
                    other, changed = changed_line(change, line), changed_rule(change, rule)
                    self.assertIs(is_plain(other, changed), True)
                    told = put_back(changed_rings(change, outline(widened(line, rule))), changed)
                    self.assertEqual(outline(widened(told, changed)), outline(widened(other, changed)))
        self.assertGreater(many, 15)

    def test_turned_about(self):
        for line, rule in some_pairs(LINES, RULES, 13):
            told = widened(turned_about(line), other_side(rule))
            shapes = widened(line, rule)
            self.assertEqual(outline(told), outline(shapes), (line, rule))
            self.assertEqual(sorted(told), sorted(shapes))
            self.assertEqual(line_length(turned_about(line)), line_length(line))


class TestTwoWideLines(unittest.TestCase):
    """Point 37: papers of two wide lines; just one of both can be."""

    def check(self, one, other):
        paper = two_paper(one, other)
        self.assertIs(lets_two(one, other, paper), True)
        self.assertEqual(two_paper(other, one)[0], paper[0])
        return paper

    def test_papers(self):
        told = {"meet": 0, "apart": 0}
        for line, rule in some_pairs(LINES, RULES, 13):
            one = widened(line, rule)
            for x, y in ((0, 1), (9, 2), (40, -3), (6, 17), (Fraction(1, 2), 45)):
                change = ("move", pair(x), pair(y))
                other = tuple(changed_shape(change, shape) for shape in one)
                paper = self.check(one, other)
                told[paper[0]] += 1
                if paper[0] == "meet":
                    where = spot(paper[1])
                    for shapes in (one, other):
                        self.assertTrue(any(in_shape(shape, where) for shape in shapes))
                else:
                    self.assertEqual(ring_sum(outline(one + other)), pair(2 * Fraction(*ring_sum(outline(one)))))
        self.assertGreater(min(told.values()), 20)

    def test_just_touching(self):
        rule = ((1, 1), "both", "cut", "pointed", (2, 1))
        line = (False, places((0, 0), (10, 0), (10, 10)))
        for far, wanted in ((2, "meet"), (2 + Fraction(1, 10**20), "apart"), (2 - Fraction(1, 10**20), "meet")):
            one = widened(line, rule)
            other = widened((False, places((-2, -far), (30, -far))), rule)
            self.assertEqual(self.check(one, other)[0], wanted)

    def test_one_in_the_others_hole(self):
        rule = ((1, 1), "both", "cut", "pointed", (2, 1))
        ring = widened((True, places((0, 0), (12, 0), (12, 12), (0, 12))), rule)
        within = widened((False, places((4, 4), (8, 4), (8, 8))), rule)
        self.assertEqual(self.check(ring, within)[0], "apart")
        self.assertEqual(self.check(ring, widened((False, places((4, 4), (8, 4), (8, 11))), rule))[0], "meet")

    def test_lines_that_cross(self):
        rule = ((1, 9), "both", "cut", "cut", (1, 1))
        for one, other in product(LINES[:10], LINES[10:16]):
            if any(common(a, b) is not None for a, b in product(pieces(one), pieces(other))):
                self.assertEqual(self.check(widened(one, rule), widened(other, rule))[0], "meet")


if __name__ == "__main__":
    unittest.main()
