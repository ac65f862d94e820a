"""Point 38: plain lines, and lines put back from their outlines."""

import unittest
from fractions import Fraction
from itertools import product

from exactlines import CLOSED, GREAT, LEFT_TURN, NINE, OPEN, STRAIGHT, STRAIGHT_BACK, by_chance
from measure import added, at, direction, midst, pair, places, quarter, spot
from sceneries import SCENERIES
from widelines.lines import is_exact, is_line
from widelines.outlines import outline
from widelines.putback import is_plain, put_back
from widelines.widening import widened

UPWARD = places((1, -1), (1, 10))
CHANCE = by_chance(38, 150) + by_chance(39, 60, 4, (3, 5, 8))


def plain_rule(half, bound=(2, 1)):
    return (pair(half), "both", "cut", "pointed", bound)


def rings_of(line, rule):
    return outline(widened(line, rule))


def way_round_by_the_words(line, half):
    """The right places, then the left ones in the contrary order; None where the line goes straight back."""
    row = [spot(one) for one in line[1]]
    ways = [direction(a, b) for a, b in zip(row, row[1:])]
    rights, lefts = [], []
    for k, p in enumerate(row):
        u, v = ways[max(k - 1, 0)], ways[min(k, len(ways) - 1)]
        slant = 1 + u[0] * v[0] + u[1] * v[1]
        if slant == 0:
            return None
        # The straight lines of a side meet along the sum of both quarters turned to the left.
        n, m = quarter(u), quarter(v)
        side = ((n[0] + m[0]) / slant, (n[1] + m[1]) / slant)
        rights.append(added(p, side, -half))
        lefts.append(added(p, side, half))
    return rights + lefts[::-1]


def plain_by_the_words(line, rule):
    row = way_round_by_the_words(line, Fraction(*rule[0]))
    rings = rings_of(line, rule)
    if row is None or len(rings) != 1:
        return False
    ring = [spot(one) for one in rings[0]]
    return any(row[k:] + row[:k] == ring for k in range(len(row)))


def elsewhere(ring):
    return [ring[k:] + ring[:k] for k in range(1, len(ring))]


class TestIsPlain(unittest.TestCase):
    def check(self, wanted, half, *spots, bound=(2, 1)):
        line = (False, places(*spots))
        rule = plain_rule(half, bound)
        self.assertTrue(is_line(line) and is_exact(line))
        self.assertIs(is_plain(line, rule), wanted, (line, rule))
        self.assertEqual(plain_by_the_words(line, rule), wanted, (line, rule))

    def test_two_places(self):
        for half in (Fraction(1, 7), 1, 5, 10, 99):
            self.check(True, half, (0, 0), (10, 0))
            self.check(True, half, (0, 0), (3, 4), bound=(1, 1))
            self.check(True, half, (1, 2), (1, -8))

    def test_turns(self):
        self.check(True, 1, (0, 0), (10, 0), (10, 10))
        self.check(True, 1, (0, 0), (10, 0), (10, -10))
        self.check(True, 1, (0, 0), (10, 0), (10, 10), (20, 10))
        self.check(True, 1, (0, 0), (12, 5), (24, 0), (33, 12))
        self.check(True, Fraction(1, 2), *[(4 * k, 3 * (k % 2)) for k in range(9)])

    def test_pieces_shorter_than_wide(self):
        self.check(True, 1, (0, 0), (1, 0))
        self.check(True, 1, (0, 0), (Fraction(1, 100), 0))
        self.check(True, 1, (0, 0), (Fraction(3, 2), 0), (Fraction(3, 2), Fraction(3, 2)))
        self.check(True, 1, (0, 0), (Fraction(101, 100), 0), (Fraction(101, 100), Fraction(101, 100)))
        self.check(False, 1, (0, 0), (1, 0), (1, 1))
        self.check(False, 1, (0, 0), (1, 0), (1, 10))
        self.check(False, 1, (0, 0), (10, 0), (10, 1))
        self.check(False, 1, (0, 0), (Fraction(1, 2), 0), (Fraction(1, 2), 10))
        self.check(False, 1, (0, 0), (10, 0), (10, Fraction(1, 2)))
        self.check(True, 1, (0, 0), (10, 0), (10, 1), (20, 1))
        self.check(True, 1, (0, 0), (10, 0), (10, Fraction(1, 9)), (20, Fraction(1, 9)))
        self.check(False, 1, (0, 0), (10, 0), (10, 1), (0, 1))

    def test_straight_back(self):
        self.check(False, 1, (0, 0), (10, 0), (4, 0))
        self.check(False, 1, (0, 0), (10, 0), (0, 0))
        self.check(False, 1, (0, 0), (10, 0), (-5, 0))
        self.check(False, 1, (0, 0), (10, 0), (10, 10), (10, 5))
        self.check(False, 1, (0, 5), (0, 0), (10, 0), (0, 0))

    def test_near_itself(self):
        for high, wanted in ((3, True), (Fraction(201, 100), True), (2, False), (Fraction(3, 2), False), (1, False)):
            self.check(wanted, 1, (0, 0), (10, 0), (10, high), (0, high))
        # The last piece comes back to the first one from above, and touches it along its end.
        for low, wanted in ((2, True), (Fraction(101, 100), True), (1, False), (0, False)):
            self.check(wanted, 1, (0, 0), (10, 0), (10, 10), (3, 10), (3, low))
        # Touching in one place alone leaves one ring that goes by the same places.
        self.check(True, 5, (0, 0), (100, 0), (100, 60), (80, 60), (41, 8))
        self.check(False, 5, (0, 0), (100, 0), (100, 60), (80, 60), (Fraction(161, 4), 7))

    def test_crossing_itself(self):
        self.check(False, 1, (0, 0), (20, 0), (20, 10), (10, 10), (10, -10))
        self.check(False, 1, (0, 0), (8, 6), (8, 0), (0, 6), bound=(9, 1))
        self.check(False, 1, (0, 0), (8, 0), (8, 6), (0, 0), bound=(9, 1))

    def test_the_bound(self):
        # A quarter's tip is the root of 2 away, this slanting one's 5 / 3.
        for bound, wanted in (((7, 5), False), ((141421356, 10**8), False), ((141421357, 10**8), True), ((2, 1), True)):
            self.check(wanted, 1, (0, 0), (10, 0), (10, 10), bound=bound)
            self.check(wanted, 1, (0, 0), (10, 0), (10, -10), bound=bound)
        for bound, wanted in (((1, 1), False), ((5 * GREAT - 1, 3 * GREAT), False), ((5, 3), True), ((9, 1), True)):
            self.check(wanted, 2, (0, 0), (50, 0), (36, 48), bound=bound)
            self.check(wanted, 2, (0, 0), (50, 0), (36, -48), bound=bound)
        # One tip that is not let is enough.
        self.check(False, 1, (0, 0), (50, 0), (50, 50), (98, 36), bound=(3, 2))
        self.check(True, 1, (0, 0), (50, 0), (50, 50), (98, 36), bound=(5, 3))

    def test_other_rules(self):
        for line in (STRAIGHT, LEFT_TURN):
            for side, ending, joining in product(
                ("both", "left", "right"), ("cut", "square", "round"), ("cut", "pointed", "round")
            ):
                wanted = (side, ending, joining) == ("both", "cut", "pointed")
                self.assertIs(is_plain(line, ((1, 1), side, ending, joining, (2, 1))), wanted)

    def test_closed_lines(self):
        for line in CLOSED:
            self.assertIs(is_plain(line, plain_rule(1)), False)

    def test_by_the_words(self):
        told = {True: 0, False: 0}
        for line in OPEN + CHANCE:
            for half, bound in product((Fraction(1, 5), 1), ((3, 2), (4, 1))):
                rule = plain_rule(half, bound)
                answer = is_plain(line, rule)
                self.assertIs(answer, plain_by_the_words(line, rule), (line, rule))
                told[answer] += 1
        self.assertGreater(min(told.values()), 100)

    def test_turned_about(self):
        for line in OPEN + CHANCE[:60]:
            for rule in (plain_rule(Fraction(1, 5), (4, 1)), plain_rule(1)):
                self.assertIs(is_plain((False, line[1][::-1]), rule), is_plain(line, rule))


class TestPutBack(unittest.TestCase):
    def check_back(self, line, rule):
        self.assertIs(is_plain(line, rule), True)
        rings = rings_of(line, rule)
        told = put_back(rings, rule)
        self.assertIs(is_line(told), True, line)
        self.assertIs(told[0], False)
        self.assertIs(is_exact(told), True)
        self.assertIs(is_plain(told, rule), True)
        self.assertEqual(rings_of(told, rule), rings)
        return told

    def test_two_ways_alone(self):
        for line in (LEFT_TURN, NINE, (False, places((0, 0), (12, 5), (24, 0), (33, 12)))):
            about = (False, line[1][::-1])
            for begun in (line, about):
                self.assertIn(self.check_back(begun, plain_rule(Fraction(1, 2), (3, 1))), (line, about))

    def test_two_places(self):
        self.assertIn(self.check_back(STRAIGHT, plain_rule(1)), (STRAIGHT, (False, STRAIGHT[1][::-1])))
        # Wider than long: the ring alone doesn't show which way it goes, half does.
        self.assertIn(self.check_back(STRAIGHT, plain_rule(30)), (STRAIGHT, (False, STRAIGHT[1][::-1])))
        rectangle = rings_of(STRAIGHT, plain_rule(1))
        athwart = places((5, -1), (5, 1))
        self.assertIn(put_back(rectangle, plain_rule(5)), ((False, athwart), (False, athwart[::-1])))
        self.assertIsNone(put_back(rectangle, plain_rule(2)))

    def test_as_long_as_wide(self):
        ways = [places((0, 0), (10, 0)), places((10, 0), (0, 0)), places((5, -5), (5, 5)), places((5, 5), (5, -5))]
        for way in ways:
            self.assertIn(self.check_back((False, way), plain_rule(5)), [(False, one) for one in ways])
        self.check_back((False, places((0, 0), (3, 4))), plain_rule(Fraction(5, 2)))

    def test_up_to_nine_places(self):
        for many in range(2, 10):
            for line in ((False, NINE[1][:many]), (False, NINE[1][9 - many:][::-1])):
                told = self.check_back(line, plain_rule(Fraction(1, 3)))
                self.assertEqual(len(told[1]), many)

    def test_ten_places_are_none(self):
        # The outline of a zigzag of ten places: no line has so many.
        row = [(Fraction(4 * k), Fraction(3 * (k % 2))) for k in range(10)]
        half = Fraction(1, 3)
        ways = [direction(a, b) for a, b in zip(row, row[1:])]
        rights, lefts = [], []
        for k, p in enumerate(row):
            u, v = ways[max(k - 1, 0)], ways[min(k, 8)]
            slant = 1 + u[0] * v[0] + u[1] * v[1]
            side = tuple(a + b for a, b in zip(quarter(u), quarter(v)))
            rights.append(at(*added(p, side, -half / slant)))
            lefts.append(at(*added(p, side, half / slant)))
        ring = tuple(rights + lefts[::-1])
        for begun in [ring] + elsewhere(ring):
            self.assertIsNone(put_back((begun,), plain_rule(half)))

    def test_by_chance(self):
        many = 0
        for line in OPEN + CHANCE:
            for rule in (plain_rule(Fraction(1, 5), (4, 1)), plain_rule(1)):
                if is_plain(line, rule):
                    many += 1
                    told = self.check_back(line, rule)
                    if len(line[1]) > 2:
                        self.assertIn(told[1], (line[1], line[1][::-1]))
                else:
                    rings = rings_of(line, rule)
                    told = put_back(rings, rule)
                    if told is not None:
                        self.assertTrue(is_plain(told, rule) and rings_of(told, rule) == rings)
        self.assertGreater(many, 60)

    def test_great_numbers(self):
        line = (False, ((0, 0, 1), (3 * GREAT, 4 * GREAT, 7), (3 * GREAT, -GREAT, 7)))
        rule = ((GREAT - 1, GREAT + 1), "both", "cut", "pointed", (4, 1))
        self.assertIn(self.check_back(line, rule)[1], (line[1], line[1][::-1]))


class TestNothingToPutBack(unittest.TestCase):
    def setUp(self):
        self.some = [(LEFT_TURN, plain_rule(1)), (NINE, plain_rule(Fraction(1, 2), (3, 1))), (STRAIGHT, plain_rule(3))]

    def none(self, rings, rule):
        self.assertIsNone(put_back(rings, rule), rings)

    def test_begun_elsewhere(self):
        for line, rule in self.some:
            for ring in elsewhere(rings_of(line, rule)[0]):
                self.none((ring,), rule)

    def test_a_place_put_in(self):
        for line, rule in self.some:
            ring = rings_of(line, rule)[0]
            for k in range(len(ring)):
                middle = at(*midst(ring[k], ring[(k + 1) % len(ring)]))
                self.none((ring[:k + 1] + (middle,) + ring[k + 1:],), rule)
                self.none((ring[:k + 1] + places((99, 99)) + ring[k + 1:],), rule)

    def test_two_places_put_in(self):
        for line, rule in self.some:
            ring = rings_of(line, rule)[0]
            half = len(ring) // 2
            middles = [at(*midst(ring[k], ring[(k + 1) % len(ring)])) for k in range(len(ring))]
            for k in range(half):
                other = k + half
                row = ring[:k + 1] + (middles[k],) + ring[k + 1:other + 1] + (middles[other],) + ring[other + 1:]
                self.none((row,), rule)

    def test_a_place_left_out(self):
        for line, rule in self.some:
            ring = rings_of(line, rule)[0]
            for k in range(len(ring)):
                self.none((ring[:k] + ring[k + 1:],), rule)

    def test_turned_about(self):
        for line, rule in self.some:
            ring = rings_of(line, rule)[0][::-1]
            for row in [ring] + elsewhere(ring):
                self.none((row,), rule)

    def test_none_and_two_rings(self):
        for line, rule in self.some:
            rings = rings_of(line, rule)
            self.none((), rule)
            self.none(rings + rings, rule)
            self.none(rings + (places((90, 90), (91, 90), (90, 91)),), rule)
            self.none((places((-90, -90), (-89, -90), (-90, -89)),) + rings, rule)

    def test_triangles_and_others(self):
        for rule in (plain_rule(1), plain_rule(2, (9, 1)), plain_rule(Fraction(1, 2))):
            self.none((places((0, 0), (4, 0), (0, 3)),), rule)
            self.none((places((0, 0), (2, -1), (4, 0), (3, 2), (1, 2)),), rule)
            self.none((places((0, 0), (2, 0), (3, 5), (1, 5)),), rule)
            self.none((places((0, 0), (7, 0), (7, 9), (0, 9)),), rule)
            self.none((places((0, 0), (2, 2), (2, 0), (0, 2)),), rule)

    def test_moved_places(self):
        for line, rule in self.some:
            ring = rings_of(line, rule)[0]
            for k in range(1, len(ring)):
                x, y = spot(ring[k])
                self.none((ring[:k] + (at(x + Fraction(1, 10**20), y),) + ring[k + 1:],), rule)

    def test_other_halves_and_bounds(self):
        rings = rings_of(LEFT_TURN, plain_rule(1))
        for half in (Fraction(1, 2), 2, Fraction(GREAT + 1, GREAT), 10, Fraction(9, 2)):
            self.none(rings, plain_rule(half))
        self.none(rings, plain_rule(1, (7, 5)))
        self.assertIsNotNone(put_back(rings, plain_rule(1, (3, 2))))
        self.assertIsNotNone(put_back(rings, plain_rule(1, (99, 1))))

    def test_other_rules(self):
        rings = rings_of(STRAIGHT, plain_rule(1))
        for rule in (
            ((1, 1), "left", "cut", "pointed", (2, 1)), ((1, 1), "right", "cut", "pointed", (2, 1)),
            ((1, 1), "both", "square", "pointed", (2, 1)), ((1, 1), "both", "cut", "round", (2, 1)),
            ((1, 1), "both", "cut", "cut", (2, 1)),
        ):
            self.none(rings, rule)

    def test_outlines_of_lines_that_are_not_plain(self):
        for line in (STRAIGHT_BACK, (False, places((0, 0), (10, 0), (10, 10), (3, 10), (3, 0)))):
            rings = rings_of(line, plain_rule(1))
            told = put_back(rings, plain_rule(1))
            # What goes straight back is as wide as the longest way along it.
            self.assertEqual(told is None, line != STRAIGHT_BACK)
        # What turns sooner than it is wide may have the outline of another line.
        rings = rings_of((False, places((0, 0), (1, 0), (1, 10))), plain_rule(1))
        self.assertIn(put_back(rings, plain_rule(1)), [(False, way) for way in (UPWARD, UPWARD[::-1])])
        rings = rings_of((False, places((0, 0), (Fraction(1, 2), 0), (Fraction(1, 2), 10))), plain_rule(1))
        self.none(rings, plain_rule(1))

    def test_sceneries(self):
        for shapes in SCENERIES.values():
            told = put_back(outline(shapes), plain_rule(1))
            if told is not None:
                self.assertEqual(rings_of(told, plain_rule(1)), outline(shapes))

    def test_great_rings(self):
        ring = tuple((10**119 + k * k, k, 10**119 + 7) for k in range(60))
        self.none((ring,) * 20, plain_rule(1))
        self.none((ring,), plain_rule(1))
        self.none((ring[:18],), plain_rule(1))


if __name__ == "__main__":
    unittest.main()
