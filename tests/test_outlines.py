"""Points 31, 33 and 34: bare parts, and the outline that is told."""

import unittest
from fractions import Fraction
from itertools import product
from math import atan2, tau

from measure import area, at, midst, on_piece, pair, places, spot, spread, within_shape
from sceneries import LINES, SCENERIES, WIDE, box, by_chance
from widelines.outlines import bare_parts, outline
from widelines.shapes import in_area, is_shape
from widelines.turning import are_rings, ring_sum, turning
from widelines.widening import widened

ALL = tuple(SCENERIES.values()) + WIDE + tuple(by_chance(31, 150, 4, 6)) + tuple(by_chance(32, 40, 12, 9))


def spots_round(ring):
    spots = [spot(one) for one in ring]
    return list(zip(spots, spots[1:] + spots[:1]))


def meetings(edge, other):
    """The places in which an edge is split by another one."""
    (a, b), (c, d) = edge, other
    here, there = spread(c, d, a), spread(c, d, b)
    if here == there:
        return [p for p in other if on_piece(a, b, p)] if here == 0 else []
    share = here / (here - there)
    where = a[0] + share * (b[0] - a[0]), a[1] + share * (b[1] - a[1])
    return [where] if on_piece(a, b, where) and on_piece(c, d, where) else []


def is_other_way(edge, other):
    (a, b), (c, d) = edge, other
    return (b[0] - a[0]) * (d[0] - c[0]) + (b[1] - a[1]) * (d[1] - c[1]) < 0


def bare_by_the_words(shapes):
    """Point 31 word by word, each two edges by themselves."""
    told = set()
    for number, shape in enumerate(shapes):
        others = [edge for k, other in enumerate(shapes) if k != number for edge in spots_round(other)]
        for edge in spots_round(shape):
            marks = set(edge)
            for other in others:
                marks.update(meetings(edge, other))
            row = sorted(marks, reverse=edge[0] > edge[1])
            for a, b in zip(row, row[1:]):
                middle = (a[0] + b[0]) / 2, (a[1] + b[1]) / 2
                if any(within_shape(one, middle) for one in shapes):
                    continue
                if any(on_piece(*other, middle) and is_other_way(edge, other) for other in others):
                    continue
                told.add((a, b))
    return [(at(*a), at(*b)) for a, b in sorted(told)]


def area_by_strips(shapes):
    """How great the AREA is: by upright strips in which no two edges cross."""
    pieces = [edge for shape in shapes for edge in spots_round(shape)]
    marks = {p[0] for edge in pieces for p in edge}
    for k, edge in enumerate(pieces):
        for other in pieces[:k]:
            marks.update(p[0] for p in meetings(edge, other))
    row = sorted(marks)
    whole = Fraction(0)
    for left, right in zip(row, row[1:]):
        middle = (left + right) / 2
        spans = []
        for shape in shapes:
            cuts = [
                a[1] + (b[1] - a[1]) * (middle - a[0]) / (b[0] - a[0])
                for a, b in spots_round(shape) if min(a[0], b[0]) < middle < max(a[0], b[0])
            ]
            if cuts:
                spans.append((min(cuts), max(cuts)))
        reached = None
        for low, high in sorted(spans):
            if reached is None or low > reached:
                reached = low
            if high > reached:
                whole += (high - reached) * (right - left)
                reached = high
    return whole


class TestSceneries(unittest.TestCase):
    def test_they_are_shapes(self):
        for shapes in ALL:
            for shape in shapes:
                self.assertIs(is_shape(shape), True, shape)


class TestBareParts(unittest.TestCase):
    def told(self, name):
        """The bare parts of a scenery as whole coordinates."""
        return [tuple((x, y) for x, y, d in part) for part in bare_parts(SCENERIES[name])]

    def test_no_shapes(self):
        told = bare_parts(())
        self.assertEqual(told, [])
        self.assertIs(type(told), list)

    def test_by_hand(self):
        square = [((0, 0), (2, 0)), ((0, 2), (0, 0)), ((2, 0), (2, 2)), ((2, 2), (0, 2))]
        self.assertEqual(self.told("one"), square)
        self.assertEqual(self.told("the same twice"), square)
        self.assertEqual(self.told("that touch in a corner"), [
            ((0, 0), (2, 0)), ((0, 2), (0, 0)), ((2, 0), (2, 2)), ((2, 2), (0, 2)), ((2, 2), (4, 2)),
            ((2, 4), (2, 2)), ((4, 2), (4, 4)), ((4, 4), (2, 4)),
        ])
        self.assertEqual(self.told("along an edge, side by side"), [
            ((0, 0), (2, 0)), ((0, 2), (0, 0)), ((2, 0), (4, 0)), ((2, 2), (0, 2)), ((4, 0), (4, 2)), ((4, 2), (2, 2)),
        ])
        self.assertEqual(self.told("along part of an edge, side by side"), [
            ((0, 0), (2, 0)), ((0, 4), (0, 0)), ((2, 0), (2, 1)), ((2, 1), (4, 1)), ((2, 3), (2, 4)),
            ((2, 4), (0, 4)), ((4, 1), (4, 3)), ((4, 3), (2, 3)),
        ])
        self.assertEqual(self.told("along an edge, from within"), [
            ((0, 0), (4, 0)), ((0, 1), (0, 0)), ((0, 3), (0, 1)), ((0, 4), (0, 3)), ((4, 0), (4, 4)), ((4, 4), (0, 4)),
        ])
        self.assertEqual(self.told("along an edge, over it"), [
            ((0, 0), (3, 0)), ((0, 2), (0, 0)), ((3, 0), (4, 0)), ((4, 0), (6, 0)), ((4, 1), (4, 2)), ((4, 2), (0, 2)),
            ((6, 0), (6, 1)), ((6, 1), (4, 1)),
        ])
        self.assertEqual(self.told("corner on an edge, from within"), [
            ((0, 0), (2, 0)), ((0, 4), (0, 0)), ((2, 0), (4, 0)), ((4, 0), (4, 4)), ((4, 4), (0, 4)),
        ])
        self.assertEqual(self.told("one within another"), [
            ((0, 0), (6, 0)), ((0, 6), (0, 0)), ((6, 0), (6, 6)), ((6, 6), (0, 6)),
        ])
        self.assertEqual(self.told("that cross"), [
            ((0, 0), (1, 0)), ((0, 2), (0, 0)), ((1, -1), (2, -1)), ((1, 0), (1, -1)), ((1, 2), (0, 2)), ((1, 3), (1, 2)),
            ((2, -1), (2, 0)), ((2, 0), (4, 0)), ((2, 2), (2, 3)), ((2, 3), (1, 3)), ((4, 0), (4, 2)), ((4, 2), (2, 2)),
        ])

    def test_by_the_words(self):
        for shapes in ALL:
            told = bare_parts(shapes)
            self.assertEqual(told, bare_by_the_words(shapes), shapes)
            self.assertIs(type(told), list)
            self.assertTrue(all(type(part) is tuple for part in told))

    def test_in_any_order_of_shapes(self):
        for shapes in ALL[:60]:
            self.assertEqual(bare_parts(shapes[::-1]), bare_parts(shapes))
            self.assertEqual(bare_parts(shapes + shapes), bare_parts(shapes))

    def test_the_list_is_the_askers_own(self):
        shapes = SCENERIES["a hole"]
        told = bare_parts(shapes)
        kept = list(told)
        told.clear()
        self.assertEqual(bare_parts(shapes), kept)

    def test_great_numbers(self):
        great = 10**29
        shapes = (
            ((0, 0, 1), (2 * great, 2, great - 1), (2 * great + 1, 5, great - 3)),
            ((-1, 1, great - 1), (great, -7, great + 3), (great, great, great - 1)),
            ((0, 0, 1), (2 * great, 2, great - 1), (great, 3, great + 9)),
        )
        self.assertTrue(all(is_shape(shape) for shape in shapes))
        self.assertEqual(bare_parts(shapes), bare_by_the_words(shapes))
        self.assertEqual(ring_sum(outline(shapes)), pair(area_by_strips(shapes)))


def turned_right(back, way):
    """By how much the way back is turned to the right until it is this way."""
    angle = atan2(back[1], back[0]) - atan2(way[1], way[0])
    return angle % tau


def way(a, b):
    (ax, ay), (bx, by) = spot(a), spot(b)
    return float(bx - ax), float(by - ay)


class TestOutline(unittest.TestCase):
    def told(self, name):
        return tuple(tuple((x, y) for x, y, d in ring) for ring in outline(SCENERIES[name]))

    def test_by_hand(self):
        square = ((0, 0), (2, 0), (2, 2), (0, 2))
        for name, wanted in (
            ("none", ()),
            ("one", (square,)),
            ("the same twice", (square,)),
            ("apart", (square, ((5, 5), (6, 5), (6, 6), (5, 6)))),
            ("that touch in a corner", (square, ((2, 2), (4, 2), (4, 4), (2, 4)))),
            ("along an edge, side by side", (((0, 0), (4, 0), (4, 2), (0, 2)),)),
            ("along an edge, from within", (((0, 0), (4, 0), (4, 4), (0, 4)),)),
            ("one within another", (((0, 0), (6, 0), (6, 6), (0, 6)),)),
            ("corner on an edge, from within", (((0, 0), (4, 0), (4, 4), (0, 4)),)),
            ("corner on an edge, from outside", (((0, 0), (4, 0), (4, 2), (0, 2)), ((1, 4), (2, 2), (3, 4)))),
            ("along part of an edge, side by side",
             (((0, 0), (2, 0), (2, 1), (4, 1), (4, 3), (2, 3), (2, 4), (0, 4)),)),
            ("at a corner", (((0, 0), (4, 0), (4, 3), (6, 3), (6, 6), (3, 6), (3, 4), (0, 4)),)),
            ("a hole", (((0, 0), (3, 0), (3, 3), (0, 3)), ((1, 1), (1, 2), (2, 2), (2, 1)))),
            ("a hole in a hole", (
                ((0, 0), (9, 0), (9, 9), (0, 9)), ((4, 4), (4, 5), (5, 5), (5, 4)),
            )),
            ("an island in a hole", (
                ((0, 0), (9, 0), (9, 9), (0, 9)), ((3, 3), (3, 6), (6, 6), (6, 3)), ((4, 4), (5, 4), (5, 5), (4, 5)),
            )),
        ):
            self.assertEqual(self.told(name), wanted, name)

    def test_by_the_words(self):
        for shapes in ALL:
            rings = outline(shapes)
            self.assertIs(are_rings(rings), True)
            self.check_parts(shapes, rings)
            self.check_form(rings)

    def check_parts(self, shapes, rings):
        """Each bare part once, in its direction; at each place the way on that is most to the left."""
        parts = bare_parts(shapes)
        gone = []
        for ring in rings:
            row = []
            for a, b in zip(ring, ring[1:] + ring[:1]):
                here = a
                while here != b:
                    steps = [part for part in parts if part[0] == here and on_piece(spot(a), spot(b), spot(part[1]))]
                    self.assertEqual(len(steps), 1)
                    row.append(steps[0])
                    here = steps[0][1]
            for step, after in zip(row, row[1:] + row[:1]):
                begun = [part for part in parts if part[0] == step[1]]
                back = way(step[1], step[0])
                self.assertEqual(after, min(begun, key=lambda part: turned_right(back, way(*part))))
            gone += row
        self.assertEqual(sorted(gone), sorted(parts))

    def check_form(self, rings):
        begins = []
        for ring in rings:
            spots = [spot(one) for one in ring]
            for k in range(len(spots)):
                self.assertNotEqual(spread(spots[k - 2], spots[k - 1], spots[k]), 0)
            self.assertEqual((spots[0], spots[1]), min(zip(spots, spots[1:] + spots[:1])))
            begins.append((spots[0], spots[1]))
        self.assertEqual(begins, sorted(begins))

    def test_turning_and_sum(self):
        for shapes in ALL:
            rings = outline(shapes)
            self.assertEqual(ring_sum(rings), pair(area_by_strips(shapes)))
            self.assertEqual(sum(area(ring) for ring in rings), area_by_strips(shapes))

    def test_turning_at_places(self):
        for shapes in ALL:
            rings = outline(shapes)
            parts = bare_parts(shapes)
            for one in self.samples(shapes):
                on_part = any(on_piece(spot(a), spot(b), spot(one)) for a, b in parts)
                wanted = None if on_part else 1 if in_area(shapes, one) else 0
                self.assertEqual(turning(rings, one), wanted)

    def samples(self, shapes):
        corners = sorted({one for shape in shapes for one in shape})[:12]
        some = [at(*midst(one, other)) for one, other in product(corners[::3], corners[1::2]) if one != other]
        return corners + some + [at(Fraction(7, 5), Fraction(3, 2)), at(-1, 1), at(3, Fraction(1, 3))]

    def test_left_and_right_are_both(self):
        for line in LINES:
            for ending, joining in product(("cut", "square", "round"), ("cut", "pointed", "round")):
                both, left, right = (
                    widened(line, ((3, 2), side, ending, joining, (2, 1))) for side in ("both", "left", "right")
                )
                self.assertEqual(outline(left + right), outline(both), (line, ending, joining))


class TestTouching(unittest.TestCase):
    """Rings at places to which several parts come."""

    def test_an_island_that_touches(self):
        told = outline(SCENERIES["an island that touches"])
        # The area joins island and frame in single places: the way most to the left stays with its area.
        self.assertEqual(told, (
            places((0, 0), (6, 0), (6, 6), (0, 6)),
            places((2, 2), (2, 4), (4, 4), (4, 2)),
            places((2, 3), (3, 2), (4, 3), (3, 4)),
        ))

    def test_a_hole_at_the_least_place(self):
        hole = places((0, 0), (5, Fraction(5, 2)), (5, Fraction(-5, 2)))
        # One ring that comes there twice: which way on is the lesser one hangs on the places behind.
        shapes = (places((0, 0), (6, -6), (6, -3)), places((0, 0), (6, 3), (6, 6)), box(5, -3, 6, 3))
        self.assertEqual(outline(shapes), (hole + places((0, 0), (6, -6), (6, 6)),))
        # A part of the greater way ends ahead of the lesser way: it is no place of the ring.
        split = shapes + (places((2, -2), (3, -3), (3, -2)),)
        self.assertIn((at(0, 0), at(2, -2)), bare_parts(split))
        self.assertEqual(outline(split), (hole + places((0, 0), (6, -6), (6, 6)),))
        shapes = (places((0, 0), (1, -4), (6, -3)), places((0, 0), (6, 3), (1, 4)), box(5, -3, 6, 3))
        self.assertEqual(outline(shapes), (places((0, 0), (1, -4), (6, -3), (6, 3), (1, 4)) + hole,))

    def test_four_that_touch_in_one_place(self):
        told = outline(SCENERIES["four that touch in one place"])
        self.assertEqual(told, tuple(sorted(SCENERIES["four that touch in one place"])))

    def test_straight_on_past_a_touching_corner(self):
        below, above = box(0, 0, 4, 2), places((1, 4), (2, 2), (3, 4))
        told = outline((below, above))
        self.assertEqual(told, (below, above))
        self.assertIn((at(4, 2), at(2, 2)), bare_parts((below, above)))
        self.assertIn((at(2, 2), at(0, 2)), bare_parts((below, above)))

    def test_rings_that_begin_in_one_place(self):
        one, other = places((0, 0), (3, 1), (3, 2)), places((0, 0), (3, -2), (3, -1))
        self.assertEqual(outline((one, other)), (other, one))
        split = places((1, Fraction(1, 3)), (2, Fraction(2, 3)), (2, 1))
        self.assertEqual(bare_parts((one, other, split))[0], (at(0, 0), at(1, Fraction(1, 3))))
        self.assertEqual(outline((one, other, split)), (other, one))


if __name__ == "__main__":
    unittest.main()
