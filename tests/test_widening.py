"""Points 18 to 22: strips, joins, ends, their order and their area."""

import unittest
from fractions import Fraction
from itertools import product

from exactlines import GREAT, LEFT_TURN, STRAIGHT, STRAIGHT_BACK
from measure import added, area, at, direction, hull, hull_shape, places, quarter, spot, spread
from widelines.lines import is_exact, is_line, is_rule
from widelines.shapes import in_area, is_shape
from widelines.widening import widened

SIDES = ("both", "left", "right")
ENDINGS = ("cut", "square", "round")
JOININGS = ("cut", "pointed", "round")

RIGHT_TURN = (False, places((0, 0), (10, 0), (10, -10)))
LINES = (
    STRAIGHT,
    LEFT_TURN,
    RIGHT_TURN,
    STRAIGHT_BACK,
    (False, places((0, 0), (3, 4))),
    (False, places((0, 0), (3, 4), (6, 0), (6, 5), (-6, 0), (6, 0), (0, 0))),
    (False, places((0, 0), (12, 5), (0, 10), (12, 15), (24, 10), (12, 5), (12, 0), (0, 0), (0, -7))),
    (False, ((1, 1, 2), (3, 1, 2), (9, 9, 2), (-1, 9, 2))),
    (False, ((0, 0, 1), (3 * GREAT, 4 * GREAT, 7), (3 * GREAT, -GREAT, 7))),
    (True, places((0, 0), (3, 0), (0, 4))),
    (True, places((0, 0), (0, 4), (3, 0))),
    (True, places((0, 0), (12, 0), (12, 12), (0, 12))),
    (True, places((3, 4), (3, 0), (7, 3), (7, 4))),
    (True, places((0, 0), (4, 3), (0, 6), (4, 9), (8, 6), (4, 3), (8, 0))),
    (True, places((0, 0), (5, 0), (0, 0), (0, 5))),
    (True, places((0, 0), (2, 0), (1, 0), (3, 0))),
)
HALVES = ((1, 1), (3, 2), (5, 1), (1, 7))
BOUNDS = ((1, 1), (4, 3), (3, 2), (2, 1), (50, 1))


def rules(halves=HALVES, bounds=BOUNDS):
    for half, side, ending, joining, bound in product(halves, SIDES, ENDINGS, JOININGS, bounds):
        yield half, side, ending, joining, bound


def twelve_spots(p, half):
    parts = {(sx * a, sy * b) for a, b in ((5, 0), (4, 3), (3, 4), (0, 5)) for sx in (1, -1) for sy in (1, -1)}
    return [added(p, part, half / 5) for part in parts]


def kept_part(spots, tests):
    """What of a convex area the tests let: each is above nought within, straight in both coordinates."""
    row = list(hull(spots))
    for test in tests:
        new = []
        for p, q in zip(row, row[1:] + row[:1]):
            here, there = test(p), test(q)
            if here >= 0:
                new.append(p)
            if here * there < 0:
                new.append(added(p, (q[0] - p[0], q[1] - p[1]), here / (here - there)))
        row = new
    return hull_shape(row)


def ahead(p, w):
    return lambda q: (q[0] - p[0]) * w[0] + (q[1] - p[1]) * w[1]


def left_of(p, w):
    return lambda q: spread(p, added(p, w), q)


def back(w):
    return -w[0], -w[1]


def strip_ends(p, n, half, side):
    left = p if side == "right" else added(p, n, half)
    right = p if side == "left" else added(p, n, -half)
    return [left, right]


def wanted_join(p, u, v, rule):
    half, side, _, joining, bound = rule
    n, m = quarter(u), quarter(v)
    bend = u[0] * v[1] - u[1] * v[0]
    if bend == 0:
        return kept_part(twelve_spots(p, half), [ahead(p, u)]) if joining == "round" else None
    if side == ("left" if bend > 0 else "right"):
        return None
    share = -half if bend > 0 else half
    outer = [added(p, n, share), added(p, m, share)]
    if joining == "round":
        one, other = (n, m) if bend > 0 else (m, n)
        sense = -1 if bend > 0 else 1
        first, last = (sense * one[0], sense * one[1]), (sense * other[0], sense * other[1])
        return kept_part(twelve_spots(p, half), [left_of(p, first), left_of(p, back(last))])
    # The tip is as far along u from the one outer corner as it lies back along v from the other.
    slant = 1 + u[0] * v[0] + u[1] * v[1]
    tip = added(p, (n[0] + m[0], n[1] + m[1]), share / slant)
    far = (tip[0] - p[0]) ** 2 + (tip[1] - p[1]) ** 2 > (bound * half) ** 2
    return hull_shape([p] + outer + ([] if joining == "cut" or far else [tip]))


def wanted_end(p, u, w, rule):
    half, side, ending = rule[:3]
    if ending == "cut":
        return None
    if ending == "square":
        ends = strip_ends(p, quarter(u), half, side)
        return hull_shape(ends + [added(q, w, half) for q in ends])
    tests = [ahead(p, w)]
    if side != "both":
        tests.append(left_of(p, u if side == "left" else back(u)))
    return kept_part(twelve_spots(p, half), tests)


def wanted(line, rule):
    rule = (Fraction(*rule[0]),) + rule[1:4] + (Fraction(*rule[4]),)
    half, side = rule[:2]
    spots = [spot(one) for one in line[1]]
    row = list(zip(spots, spots[1:])) + ([(spots[-1], spots[0])] if line[0] else [])
    ways = [direction(a, b) for a, b in row]
    told = [
        hull_shape(strip_ends(a, quarter(u), half, side) + strip_ends(b, quarter(u), half, side))
        for (a, b), u in zip(row, ways)
    ]
    for k in range(1, len(row) + line[0]):
        told.append(wanted_join(row[k - 1][1], ways[k - 1], ways[k % len(row)], rule))
    if not line[0]:
        told.append(wanted_end(spots[0], ways[0], back(ways[0]), rule))
        told.append(wanted_end(spots[-1], ways[-1], ways[-1], rule))
    return tuple(shape for shape in told if shape is not None)


class TestAll(unittest.TestCase):
    def test_lines_and_rules_are_such(self):
        for line in LINES:
            self.assertTrue(is_line(line) and is_exact(line), line)
        for rule in rules():
            self.assertTrue(is_rule(rule))

    def test_each_line_by_each_rule(self):
        for line in LINES:
            for rule in rules(halves=((1, 1), (7, 3)), bounds=((4, 3), (2, 1))):
                told = widened(line, rule)
                self.assertEqual(told, wanted(line, rule), (line, rule))
                self.assertIs(type(told), tuple)
                for shape in told:
                    self.assertIs(is_shape(shape), True)

    def test_great_numbers(self):
        rule = ((GREAT - 1, GREAT), "both", "round", "pointed", (GREAT + 1, GREAT))
        line = (False, ((0, 0, 1), (3 * GREAT, 4 * GREAT, GREAT - 1), (GREAT, 4 * GREAT, GREAT - 1)))
        self.assertEqual(widened(line, rule), wanted(line, rule))


class TestStrips(unittest.TestCase):
    def test_by_hand(self):
        for side, corners in (
            ("both", ((0, -1), (10, -1), (10, 1), (0, 1))),
            ("left", ((0, 0), (10, 0), (10, 1), (0, 1))),
            ("right", ((0, -1), (10, -1), (10, 0), (0, 0))),
        ):
            self.assertEqual(widened(STRAIGHT, ((1, 1), side, "cut", "cut", (1, 1))), (places(*corners),))
        told = widened((False, places((0, 0), (3, 4))), ((5, 1), "left", "cut", "cut", (1, 1)))
        self.assertEqual(told, (places((-4, 3), (0, 0), (3, 4), (-1, 7)),))

    def test_piece_by_piece(self):
        for line in LINES:
            for rule in rules(halves=((1, 1),), bounds=((2, 1),)):
                many = len(line[1]) - 1 + line[0]
                for k, shape in enumerate(widened(line, rule)[:many]):
                    piece = (False, (line[1][k], line[1][(k + 1) % len(line[1])]))
                    self.assertEqual((shape,), widened(piece, rule[:2] + ("cut",) + rule[3:]))


class TestJoins(unittest.TestCase):
    def joins(self, line, side, joining, bound=(2, 1), half=(1, 1)):
        return widened(line, (half, side, "cut", joining, bound))[len(line[1]) - 1 + line[0]:]

    def test_cut_by_hand(self):
        right = (places((10, -1), (11, 0), (10, 0)),)
        self.assertEqual(self.joins(LEFT_TURN, "both", "cut"), right)
        self.assertEqual(self.joins(LEFT_TURN, "right", "cut"), right)
        self.assertEqual(self.joins(LEFT_TURN, "left", "cut"), ())
        left = (places((10, 0), (11, 0), (10, 1)),)
        self.assertEqual(self.joins(RIGHT_TURN, "both", "cut"), left)
        self.assertEqual(self.joins(RIGHT_TURN, "left", "cut"), left)
        self.assertEqual(self.joins(RIGHT_TURN, "right", "cut"), ())

    def test_pointed_by_hand(self):
        right = (places((10, -1), (11, -1), (11, 0), (10, 0)),)
        self.assertEqual(self.joins(LEFT_TURN, "both", "pointed"), right)
        self.assertEqual(self.joins(LEFT_TURN, "right", "pointed"), right)
        self.assertEqual(self.joins(LEFT_TURN, "left", "pointed"), ())
        left = (places((10, 0), (11, 0), (11, 1), (10, 1)),)
        self.assertEqual(self.joins(RIGHT_TURN, "both", "pointed"), left)
        self.assertEqual(self.joins(RIGHT_TURN, "left", "pointed"), left)
        self.assertEqual(self.joins(RIGHT_TURN, "right", "pointed"), ())

    def test_pointed_by_the_bound(self):
        # The tip of a turn from (1, 0) to (-7, 24) / 25 is 5 / 3 of half away.
        line = (False, places((0, 0), (50, 0), (36, 48)))
        for half in ((1, 1), (2, 3), (30, 1)):
            for bound, many in (
                ((1, 1), 3),
                ((5 * 10**20 - 1, 3 * 10**20), 3),
                ((5, 3), 4),
                ((5 * 10**20 + 1, 3 * 10**20), 4),
                ((9, 1), 4),
            ):
                for turned in (line, (False, tuple((x, -y, d) for x, y, d in line[1]))):
                    told = self.joins(turned, "both", "pointed", bound, half)
                    self.assertEqual([len(shape) for shape in told], [many])
                    if many == 3:
                        self.assertEqual(told, self.joins(turned, "both", "cut", bound, half))
        told = self.joins(line, "both", "pointed", (5, 3))[0]
        self.assertEqual(told, places((50, -1), (50 + Fraction(4, 3), -1), (50 + Fraction(24, 25), Fraction(7, 25)), (50, 0)))

    def test_pointed_at_no_fraction(self):
        # The tip of a quarter's turn is the root of 2 away: never just at the bound.
        for bound, many in (((1, 1), 3), ((7, 5), 3), ((141421356, 10**8), 3), ((141421357, 10**8), 4), ((3, 2), 4)):
            self.assertEqual([len(shape) for shape in self.joins(LEFT_TURN, "both", "pointed", bound)], [many])

    def test_round_by_hand(self):
        right = (places((10, -5), (13, -4), (14, -3), (15, 0), (10, 0)),)
        self.assertEqual(self.joins(LEFT_TURN, "both", "round", half=(5, 1)), right)
        self.assertEqual(self.joins(LEFT_TURN, "right", "round", half=(5, 1)), right)
        self.assertEqual(self.joins(LEFT_TURN, "left", "round", half=(5, 1)), ())
        left = (places((10, 0), (15, 0), (14, 3), (13, 4), (10, 5)),)
        self.assertEqual(self.joins(RIGHT_TURN, "both", "round", half=(5, 1)), left)
        self.assertEqual(self.joins(RIGHT_TURN, "left", "round", half=(5, 1)), left)
        self.assertEqual(self.joins(RIGHT_TURN, "right", "round", half=(5, 1)), ())

    def test_round_need_not_reach_the_corners(self):
        line = (False, places((0, 0), (12, 5), (0, 10)))
        told = self.joins(line, "both", "round")[0]
        x, y = spot(line[1][1])
        self.assertNotIn(at(x + Fraction(5, 13), y - Fraction(12, 13)), told)
        self.assertIn(line[1][1], told)
        self.assertLess(area(told), area(hull_shape(twelve_spots((x, y), Fraction(1)))) / 2)

    def test_straight_back(self):
        for side in SIDES:
            self.assertEqual(self.joins(STRAIGHT_BACK, side, "cut"), ())
            self.assertEqual(self.joins(STRAIGHT_BACK, side, "pointed", (9, 1)), ())
            told = self.joins(STRAIGHT_BACK, side, "round", half=(5, 1))
            self.assertEqual(told, (places((10, -5), (13, -4), (14, -3), (15, 0), (14, 3), (13, 4), (10, 5)),))

    def test_of_a_closed_line(self):
        square = (True, places((0, 0), (12, 0), (12, 12), (0, 12)))
        told = self.joins(square, "both", "pointed")
        wanted_ones = [((12, -1), (13, 0)), ((12, 12), (13, 13)), ((-1, 12), (0, 13)), ((-1, -1), (0, 0))]
        self.assertEqual([(spot(shape[0]), max(map(spot, shape))) for shape in told], wanted_ones)
        self.assertEqual(len(self.joins(square, "right", "cut")), 4)
        self.assertEqual(self.joins(square, "left", "cut"), ())


class TestEnds(unittest.TestCase):
    def ends(self, line, side, ending, half=(1, 1)):
        told = widened(line, (half, side, ending, "cut", (1, 1)))
        return told[len(widened(line, (half, side, "cut", "cut", (1, 1)))):]

    def test_cut(self):
        for line in LINES:
            for side in SIDES:
                self.assertEqual(self.ends(line, side, "cut"), ())

    def test_square_by_hand(self):
        for side, low, high in (("both", -1, 1), ("left", 0, 1), ("right", -1, 0)):
            first = places((-1, low), (0, low), (0, high), (-1, high))
            last = places((10, low), (11, low), (11, high), (10, high))
            self.assertEqual(self.ends(STRAIGHT, side, "square"), (first, last))

    def test_round_by_hand(self):
        first = ((-5, 0), (-4, -3), (-3, -4), (0, -5), (0, 5), (-3, 4), (-4, 3))
        last = ((10, -5), (13, -4), (14, -3), (15, 0), (14, 3), (13, 4), (10, 5))
        self.assertEqual(self.ends(STRAIGHT, "both", "round", (5, 1)), (places(*first), places(*last)))
        first = ((-5, 0), (0, 0), (0, 5), (-3, 4), (-4, 3))
        last = ((10, 0), (15, 0), (14, 3), (13, 4), (10, 5))
        self.assertEqual(self.ends(STRAIGHT, "left", "round", (5, 1)), (places(*first), places(*last)))
        first = ((-5, 0), (-4, -3), (-3, -4), (0, -5), (0, 0))
        last = ((10, -5), (13, -4), (14, -3), (15, 0), (10, 0))
        self.assertEqual(self.ends(STRAIGHT, "right", "round", (5, 1)), (places(*first), places(*last)))

    def test_closed_lines_have_none(self):
        for line in LINES:
            for side, ending in product(SIDES, ("square", "round")):
                self.assertEqual(len(self.ends(line, side, ending)), 0 if line[0] else 2)

    def test_each_end_goes_by_its_own_piece(self):
        for ending in ("square", "round"):
            told = self.ends(LEFT_TURN, "both", ending)
            self.assertEqual(min(x for x, y in map(spot, told[0])), -1)
            self.assertEqual(max(y for x, y in map(spot, told[1])), 11)


class TestOrder(unittest.TestCase):
    def test_strips_joins_ends(self):
        line = (False, places((0, 0), (10, 0), (10, 10), (20, 10)))
        told = widened(line, ((1, 1), "both", "square", "pointed", (2, 1)))
        self.assertEqual(told, (
            places((0, -1), (10, -1), (10, 1), (0, 1)),
            places((9, 0), (11, 0), (11, 10), (9, 10)),
            places((10, 9), (20, 9), (20, 11), (10, 11)),
            places((10, -1), (11, -1), (11, 0), (10, 0)),
            places((9, 10), (10, 10), (10, 11), (9, 11)),
            places((-1, -1), (0, -1), (0, 1), (-1, 1)),
            places((20, 9), (21, 9), (21, 11), (20, 11)),
        ))

    def test_how_many(self):
        zigzag = (False, places(*[(4 * k, 3 * (k % 2)) for k in range(9)]))
        for ending, ends in (("cut", 0), ("square", 2), ("round", 2)):
            for side, joins in (("both", 7), ("left", 4), ("right", 3)):
                self.assertEqual(len(widened(zigzag, ((1, 1), side, ending, "round", (1, 1)))), 8 + joins + ends)


class TestArea(unittest.TestCase):
    """Point 22: the AREA of both is that of left and right together."""

    def samples(self, shapes):
        corners = [spot(one) for shape in shapes for one in shape]
        middles = [((a[0] + b[0]) / 2, (a[1] + b[1]) / 2) for a, b in zip(corners, corners[3:] + corners[:3])]
        little = Fraction(1, 10**12)
        around = [added(p, way, little) for p in corners[::2] for way in ((1, 2), (-2, 1), (-1, -3), (3, -1))]
        return set(corners + middles + around)

    def test_left_and_right_are_both(self):
        for line in LINES[:8] + LINES[9:]:
            for ending, joining, bound in product(ENDINGS, JOININGS, ((4, 3), (3, 1))):
                both, left, right = (widened(line, ((3, 2), side, ending, joining, bound)) for side in SIDES)
                for where in self.samples(both):
                    one = at(*where)
                    self.assertEqual(in_area(both, one), in_area(left + right, one), (line, one))


if __name__ == "__main__":
    unittest.main()
