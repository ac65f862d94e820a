"""Points 46 and 47: changes, lines turned about, rules with their sides exchanged."""

import unittest
from fractions import Fraction
from functools import cmp_to_key
from itertools import product

from exactlines import CLOSED, GREAT, OPEN, by_chance, closed_by_chance
from measure import area, at, pair, places, spot
from sceneries import SCENERIES, box
from things import FRACTIONS, NO_NUMBERS, OTHER_THINGS, check_answers, check_numbers
from widelines.changes import changed_line, changed_place, changed_rings, changed_rule, changed_shape, is_change
from widelines.changes import other_side, turned_about
from widelines.lines import is_exact, is_line, is_rule
from widelines.outlines import outline
from widelines.shapes import is_shape, twelve
from widelines.turning import are_rings, ring_sum
from widelines.widening import widened

QUARTER = ("quarter",)
MIRROR = ("mirror",)
CHANGES = (
    QUARTER,
    MIRROR,
    ("move", (0, 1), (0, 1)),
    ("move", (1, 2), (-7, 3)),
    ("move", (-GREAT, 7), (1, GREAT)),
    ("scale", (1, 1)),
    ("scale", (2, 3)),
    ("scale", (5, 1)),
    ("scale", (1, GREAT)),
    ("scale", (GREAT, GREAT - 1)),
)
SPOTS = ((0, 0), (1, 0), (0, 1), (-3, 4), (Fraction(1, 2), Fraction(1, 3)), (Fraction(-7, 6), 5), (GREAT, Fraction(1, GREAT)))
RULES = tuple(
    (half, side, ending, joining, (3, 2))
    for half in ((1, 1), (3, 7))
    for side in ("both", "left", "right")
    for ending in ("cut", "square", "round")
    for joining in ("cut", "pointed", "round")
)
LINES = OPEN + CLOSED + by_chance(46, 20) + closed_by_chance(46, 20)


def changed_spot(change, p):
    if change[0] == "move":
        return p[0] + Fraction(*change[1]), p[1] + Fraction(*change[2])
    if change[0] == "scale":
        return p[0] * Fraction(*change[1]), p[1] * Fraction(*change[1])
    return (-p[1], p[0]) if change == QUARTER else (-p[0], p[1])


class TestIsChange(unittest.TestCase):
    def test_each_sort(self):
        check_answers(self, is_change, CHANGES, True)
        some = [("move", x, y) for x, y in product(FRACTIONS, FRACTIONS)]
        check_answers(self, is_change, some, True)

    def test_scale_is_above_nought(self):
        for one in FRACTIONS:
            self.assertIs(is_change(("scale", one)), one[0] > 0)

    def test_numbers_that_are_no_fractions(self):
        none = NO_NUMBERS + (0, 1, 5, (2, 2), (0, 2), (1, 0), (1, -1), (-1, -1), [1, 1], (True, 1), (1, True), "1", "1/2")
        for other in none:
            if other == (1, 1) and type(other) is tuple:
                continue
            some = [("move", other, (1, 1)), ("move", (1, 1), other), ("move", other, other), ("scale", other)]
            check_answers(self, is_change, some, False)

    def test_too_few_and_too_many_parts(self):
        one = (1, 1)
        some = [(), ("move",), ("move", one), ("move", one, one, one), ("scale",), ("scale", one, one)]
        some += [("quarter", one), ("quarter", ()), ("quarter", "quarter"), ("mirror", one), ("mirror", None)]
        some += [("quarter", 1), ("mirror", "mirror"), ("move", one, one, None), ("scale", one, None)]
        check_answers(self, is_change, some, False)

    def test_other_words(self):
        one = (1, 1)
        for word in ("", "Move", "move ", "turn", "moved", "scaled", "mirrored", None, True, 0, one, ("move",), ["move"]):
            check_answers(self, is_change, [(word,), (word, one), (word, one, one)], False)

    def test_lists(self):
        check_answers(self, is_change, [list(change) for change in CHANGES], False)
        some = [("move", [1, 1], (1, 1)), ("move", (1, 1), [1, 1]), ("scale", [1, 1]), ("move", [(1, 1), (1, 1)])]
        some += [(change,) for change in CHANGES] + [[change] for change in CHANGES]
        check_answers(self, is_change, some, False)

    def test_other_things(self):
        check_answers(self, is_change, OTHER_THINGS + FRACTIONS + NO_NUMBERS, False)
        check_answers(self, is_change, ["quarter", "mirror", "move", "scale", ("move",) * 3, ("scale",) * 2], False)
        for other in OTHER_THINGS:
            some = [("move", other, (1, 1)), ("scale", other), (other, (1, 1)), (other,), ("quarter", other)]
            check_answers(self, is_change, some, False)


class TestPlaces(unittest.TestCase):
    def test_by_hand(self):
        one = at(Fraction(1, 2), Fraction(-2, 3))
        for change, x, y in (
            (("move", (1, 2), (2, 3)), 1, 0),
            (("move", (0, 1), (1, 6)), Fraction(1, 2), Fraction(-1, 2)),
            (QUARTER, Fraction(2, 3), Fraction(1, 2)),
            (MIRROR, Fraction(-1, 2), Fraction(-2, 3)),
            (("scale", (6, 1)), 3, -4),
            (("scale", (1, 2)), Fraction(1, 4), Fraction(-1, 3)),
        ):
            self.assertEqual(changed_place(change, one), at(x, y))
        self.assertEqual(changed_place(QUARTER, (1, 0, 1)), (0, 1, 1))
        self.assertEqual(changed_place(QUARTER, (0, 1, 1)), (-1, 0, 1))

    def test_each(self):
        for change, p in product(CHANGES, SPOTS):
            told = changed_place(change, at(*p))
            check_numbers(self, told, 3)
            self.assertEqual(told, at(*changed_spot(change, p)))

    def test_round_and_back(self):
        for p in SPOTS:
            one = at(*p)
            told = one
            for count in range(4):
                told = changed_place(QUARTER, told)
            self.assertEqual(told, one)
            self.assertEqual(changed_place(MIRROR, changed_place(MIRROR, one)), one)
            self.assertEqual(changed_place(("scale", (3, 7)), changed_place(("scale", (7, 3)), one)), one)
            there = changed_place(("move", (3, 7), (1, 2)), one)
            self.assertEqual(changed_place(("move", (-3, 7), (-1, 2)), there), one)


class TestLinesAndRules(unittest.TestCase):
    def test_lines(self):
        for change, line in product(CHANGES, LINES):
            told = changed_line(change, line)
            self.assertIs(is_line(told), True)
            self.assertIs(is_exact(told), True)
            self.assertEqual(told, (line[0], tuple(changed_place(change, one) for one in line[1])))

    def test_a_line_that_is_not_exact(self):
        line = (False, places((0, 0), (1, 1)))
        self.assertEqual(changed_line(QUARTER, line), (False, places((0, 0), (-1, 1))))
        self.assertEqual(changed_line(("scale", (2, 1)), line), (False, places((0, 0), (2, 2))))

    def test_rules_by_hand(self):
        rule = ((3, 2), "left", "round", "pointed", (5, 4))
        self.assertEqual(changed_rule(("scale", (2, 3)), rule), ((1, 1), "left", "round", "pointed", (5, 4)))
        self.assertEqual(changed_rule(MIRROR, rule), ((3, 2), "right", "round", "pointed", (5, 4)))
        self.assertEqual(changed_rule(QUARTER, rule), rule)
        self.assertEqual(changed_rule(("move", (1, 2), (3, 4)), rule), rule)

    def test_rules(self):
        exchanged = {"both": "both", "left": "right", "right": "left"}
        for change, rule in product(CHANGES, RULES):
            half, side = Fraction(*rule[0]), rule[1]
            if change[0] == "scale":
                half *= Fraction(*change[1])
            if change == MIRROR:
                side = exchanged[side]
            told = changed_rule(change, rule)
            self.assertIs(is_rule(told), True)
            self.assertEqual(told, (pair(half), side) + rule[2:])


class TestShapes(unittest.TestCase):
    SHAPES = [shape for shapes in SCENERIES.values() for shape in shapes]
    SHAPES += [twelve((1, 2, 3), (5, 7)), places((0, 0), (1, 0), (0, 1))]

    def test_by_hand(self):
        shape = places((0, 0), (4, 0), (0, 2))
        self.assertEqual(changed_shape(QUARTER, shape), places((-2, 0), (0, 0), (0, 4)))
        self.assertEqual(changed_shape(MIRROR, shape), places((-4, 0), (0, 0), (0, 2)))
        self.assertEqual(changed_shape(("move", (1, 1), (-1, 2)), shape), at_half((2, -1), (10, -1), (2, 3)))
        self.assertEqual(changed_shape(("scale", (1, 2)), shape), places((0, 0), (2, 0), (0, 1)))

    def test_each(self):
        for change, shape in product(CHANGES, self.SHAPES):
            told = changed_shape(change, shape)
            self.assertIs(is_shape(told), True)
            self.assertEqual(set(told), {changed_place(change, one) for one in shape})
            share = Fraction(*change[1]) ** 2 if change[0] == "scale" else 1
            self.assertEqual(area(told), area(shape) * share)


def at_half(*spots):
    return places(*[(Fraction(x, 2), Fraction(y, 2)) for x, y in spots])


def rings_by_the_words(change, rings):
    def ahead(one, other):
        """Below nought where a row goes ahead of another one."""
        for p, q in zip(one, other):
            if p != q:
                return -1 if p < q else 1
        return len(one) - len(other)

    told = []
    for ring in rings:
        row = [changed_spot(change, spot(one)) for one in ring]
        if change == MIRROR:
            row.reverse()
        told.append(min((row[k:] + row[:k] for k in range(len(row))), key=cmp_to_key(ahead)))
    told.sort(key=cmp_to_key(ahead))
    return tuple(tuple(at(*p) for p in row) for row in told)


RINGS = (
    (),
    (places((0, 0), (1, 0), (0, 1)),),
    # Begun at any place, going round to the right, crossing itself, going to and fro.
    (places((1, 0), (0, 1), (0, 0)), places((0, 1), (1, 0), (0, 0))),
    (places((0, 0), (2, 2), (2, 0), (0, 2)),),
    (places((3, 3), (0, 0), (3, 0), (0, 0), (1, 3)),),
    (places((0, 0), (1, 0), (0, 0), (1, 0)),),
    # The least place twice, the same way on for a while.
    (places((0, 0), (1, 1), (5, 0), (0, 0), (1, 1), (4, 0)),),
    (places((0, 0), (1, 1), (4, 0), (0, 0), (1, 1), (5, 0)),),
    (places((0, 0), (1, 1), (2, 0), (0, 0), (1, 1), (2, 0)),),
    # One that begins another one; the same twice; alike up to the last place.
    (places((0, 0), (1, 0), (1, 1), (0, 1)), places((0, 0), (1, 0), (1, 1))),
    (places((0, 0), (1, 0), (1, 1)), places((0, 0), (1, 0), (1, 1), (0, 1)), places((0, 0), (1, 0), (1, 1))),
    (places((0, 0), (1, 0), (1, 1), (0, 7)), places((0, 0), (1, 0), (1, 1), (0, 5))),
    (places((5, 5), (6, 5), (5, 6)), places((-5, 5), (-4, 5), (-5, 6)), places((-5, -5), (-4, -5), (-5, -4))),
    # Of unlike bottoms.
    (((1, 1, 3), (1, 2, 2), (1, 0, 4)), ((1, 1, 4), (1, 2, 2), (1, 0, 3)), ((1, 0, 10**119), (1, 1, 2), (5, 5, 1))),
)


class TestRings(unittest.TestCase):
    def test_by_hand(self):
        ring = places((0, 0), (4, 0), (4, 1), (0, 2))
        self.assertEqual(changed_rings(QUARTER, (ring,)), (places((-2, 0), (0, 0), (0, 4), (-1, 4)),))
        self.assertEqual(changed_rings(MIRROR, (ring,)), (places((-4, 0), (0, 0), (0, 2), (-4, 1)),))
        self.assertEqual(changed_rings(("scale", (1, 2)), (ring,)), (at_half((0, 0), (4, 0), (4, 1), (0, 2)),))
        self.assertEqual(changed_rings(("move", (1, 2), (0, 1)), (ring,)), (at_half((1, 0), (9, 0), (9, 2), (1, 4)),))
        one, other = box(0, 0, 1, 1), box(2, 0, 3, 1)
        self.assertEqual(changed_rings(MIRROR, (one, other)), (box(-3, 0, -2, 1), box(-1, 0, 0, 1)))

    def test_the_begin(self):
        stay = ("move", (0, 1), (0, 1))
        for rings, wanted in (
            ((places((1, 0), (0, 1), (0, 0)),), (places((0, 0), (1, 0), (0, 1)),)),
            ((places((3, 3), (0, 0), (3, 0), (0, 0), (1, 3)),), (places((0, 0), (1, 3), (3, 3), (0, 0), (3, 0)),)),
            (
                (places((0, 0), (1, 1), (5, 0), (0, 0), (1, 1), (4, 0)),),
                (places((0, 0), (1, 1), (4, 0), (0, 0), (1, 1), (5, 0)),),
            ),
            (
                (places((0, 0), (1, 0), (1, 1), (0, 1)), places((0, 0), (1, 0), (1, 1))),
                (places((0, 0), (1, 0), (1, 1)), places((0, 0), (1, 0), (1, 1), (0, 1))),
            ),
            (
                (places((0, 0), (1, 0), (1, 1), (0, 7)), places((0, 0), (1, 0), (1, 1), (0, 5))),
                (places((0, 0), (1, 0), (1, 1), (0, 5)), places((0, 0), (1, 0), (1, 1), (0, 7))),
            ),
        ):
            self.assertEqual(changed_rings(stay, rings), wanted)

    def test_each(self):
        some = RINGS + tuple(outline(shapes) for shapes in SCENERIES.values())
        for change, rings in product(CHANGES, some):
            self.assertIs(are_rings(rings), True)
            told = changed_rings(change, rings)
            self.assertIs(are_rings(told), True)
            self.assertEqual(told, rings_by_the_words(change, rings))
            share = Fraction(*change[1]) ** 2 if change[0] == "scale" else 1
            # Going round the other way about, a mirrored ring keeps its sign.
            self.assertEqual(Fraction(*ring_sum(told)), Fraction(*ring_sum(rings)) * share)

    def test_outlines_are_so_begun(self):
        for shapes in SCENERIES.values():
            self.assertEqual(changed_rings(("scale", (1, 1)), outline(shapes)), outline(shapes))

    def test_great_rings(self):
        ring = tuple((10**119 + k * k * (k % 7), -k, 10**119 + 7) for k in range(60))
        rings = tuple(ring[k:] + ring[:k] for k in range(20))
        self.assertIs(are_rings(rings), True)
        told = changed_rings(MIRROR, rings)
        self.assertEqual(told, rings_by_the_words(MIRROR, rings))
        self.assertEqual(changed_rings(MIRROR, told), rings_by_the_words(("scale", (1, 1)), rings))


class TestTurnedAbout(unittest.TestCase):
    def test_by_hand(self):
        self.assertEqual(turned_about((False, places((0, 0), (1, 0), (1, 1)))), (False, places((1, 1), (1, 0), (0, 0))))
        self.assertEqual(turned_about((True, places((0, 0), (1, 0), (1, 1)))), (True, places((0, 0), (1, 1), (1, 0))))
        line = (True, places((0, 0), (2, 0), (2, 1), (0, 1)))
        self.assertEqual(turned_about(line), (True, places((0, 0), (0, 1), (2, 1), (2, 0))))
        self.assertEqual(turned_about((False, places((0, 0), (1, 1)))), (False, places((1, 1), (0, 0))))

    def test_other_side_by_hand(self):
        for side, wanted in (("both", "both"), ("left", "right"), ("right", "left")):
            rule = ((3, 2), side, "cut", "round", (7, 5))
            self.assertEqual(other_side(rule), ((3, 2), wanted, "cut", "round", (7, 5)))

    def test_twice(self):
        for line in LINES:
            about = turned_about(line)
            self.assertIs(is_line(about), True)
            self.assertIs(is_exact(about), True)
            self.assertEqual(turned_about(about), line)
            self.assertEqual(sorted(about[1]), sorted(line[1]))
            if line[0]:
                self.assertEqual(about[1][0], line[1][0])
        for rule in RULES:
            self.assertIs(is_rule(other_side(rule)), True)
            self.assertEqual(other_side(other_side(rule)), rule)

    def test_the_same_area(self):
        for line in LINES[:8] + CLOSED[2:8]:
            for rule in RULES[::5]:
                told = outline(widened(turned_about(line), other_side(rule)))
                self.assertEqual(told, outline(widened(line, rule)), (line, rule))


if __name__ == "__main__":
    unittest.main()
