"""Points 15 and 16 and the kinds SHAPE, EDGES, SHAPES, AREA of point 3."""

import unittest
from fractions import Fraction
from itertools import permutations, product
from random import Random

from measure import area, at, hull_shape, in_shape, midst, places, spot, spread, within_shape
from things import FRACTIONS, NO_NUMBERS, OTHER_THINGS, check_answers, with_one_part_else
from widelines.shapes import belongs, cut_off, in_area, is_shape, is_within, shape_of, twelve

GREAT = 10**29

TRIANGLE = places((0, 0), (4, 0), (0, 3))
SQUARE = places((0, 0), (2, 0), (2, 2), (0, 2))
OBLIQUE = places((-1, 0), (0, -1), (1, 0), (0, 1))
HEXAGON = ((-1, 1, 1), (-1, -1, 2), (1, -3, 2), (5, 1, 3), (4, 9, 4), (0, 5, 2))
SIXTEEN = tuple(sorted({at(x * sx, y * sy) for x, y in ((10, 1), (9, 4), (4, 9), (1, 10)) for sx in (1, -1) for sy in (1, -1)}))
SHAPES = (
    TRIANGLE,
    SQUARE,
    OBLIQUE,
    shape_of(HEXAGON),
    shape_of(SIXTEEN),
    ((0, 0, 1), (GREAT, 1, 1), (2 * GREAT + 1, 3, 1)),
    ((-GREAT, 1, GREAT - 1), (1, -GREAT, 7), (GREAT, 0, 1)),
)


class TestIsShape(unittest.TestCase):
    def test_shapes(self):
        check_answers(self, is_shape, SHAPES, True)
        self.assertEqual([len(shape) for shape in SHAPES], [3, 4, 4, 6, 16, 3, 3])

    def test_begun_elsewhere(self):
        for shape in SHAPES:
            check_answers(self, is_shape, [shape[k:] + shape[:k] for k in range(1, len(shape))], False)

    def test_turned_about(self):
        for shape in SHAPES:
            check_answers(self, is_shape, [shape[::-1], shape[:1] + shape[:0:-1]], False)

    def test_in_any_other_order(self):
        for shape in SHAPES:
            if len(shape) < 7:
                for row in permutations(shape):
                    self.assertIs(is_shape(row), row == shape)

    def test_a_corner_twice(self):
        for shape in SHAPES:
            some = [shape[:k] + shape[k:k + 1] + shape[k:] for k in range(len(shape))]
            some += [shape + shape[:1], shape + shape, shape + shape[1:], shape[:2] + shape]
            check_answers(self, is_shape, some, False)

    def test_a_corner_in_the_midst_of_an_edge(self):
        for shape in SHAPES:
            for k in range(len(shape)):
                added = at(*midst(shape[k], shape[(k + 1) % len(shape)]))
                self.assertIs(is_shape(shape[:k + 1] + (added,) + shape[k + 1:]), False)

    def test_no_convex_area(self):
        some = [places((0, 0), (4, 0), (1, 1), (0, 4)), places((0, 0), (2, 2), (2, 0), (0, 2))]
        some += [places((0, 0), (4, 0), (3, 1), (4, 4), (0, 4)), places((0, 0), (1, 0), (2, 0)), places((0, 0), (1, 1), (3, 3))]
        check_answers(self, is_shape, some, False)

    def test_stars_that_go_round_twice(self):
        five = places((-4, 0), (-2, -4), (2, -4), (4, 1), (0, 4))
        self.assertIs(is_shape(five), True)
        star = tuple(five[k * 2 % 5] for k in range(5))
        # All its turns go left, and it begins with the least place.
        self.assertTrue(all(spread(*[spot(star[(k + i) % 5]) for i in range(3)]) > 0 for k in range(5)))
        check_answers(self, is_shape, [star, star + star, five + five], False)
        sixteen = SHAPES[4]
        check_answers(self, is_shape, [tuple(sixteen[k * step % 16] for k in range(16)) for step in (3, 5, 7)], False)

    def test_too_few_corners(self):
        for shape in SHAPES:
            check_answers(self, is_shape, [shape[:2], shape[:1], shape[:0]], False)

    def test_lists(self):
        for shape in SHAPES:
            some = [list(shape), [list(one) for one in shape], tuple(list(one) for one in shape), (shape,), [shape]]
            some += with_one_part_else(shape, list(shape[0])) + [(list(shape[0]),) + shape[1:]]
            check_answers(self, is_shape, some, False)

    def test_corners_that_are_no_places(self):
        for other in NO_NUMBERS + ((0, 0), (0, 0, 2), (1, 1, 0), (1, 1, -1), (True, 0, 1), (0, 0, True), (False, 0, 1)):
            if other != (1, 2, 1):
                check_answers(self, is_shape, with_one_part_else(SQUARE, other), False)
        check_answers(self, is_shape, [((0, 0, 1), (4, 0, 1), (0, 3, True)), ((False, 0, 1), (4, 0, 1), (0, 3, 1))], False)

    def test_other_things(self):
        check_answers(self, is_shape, OTHER_THINGS + FRACTIONS + ((SQUARE, SQUARE), (False, SQUARE)), False)
        check_answers(self, is_shape, [((1, 2, 3),) * 4999, tuple((k * k % 4999, k, 1) for k in range(4999))], False)
        self.assertIs(is_shape(tuple((k, k * k, 1) for k in range(4000))), True)


class TestShapeOf(unittest.TestCase):
    def test_by_hand(self):
        self.assertEqual(shape_of(places((0, 3), (4, 0), (0, 0))), TRIANGLE)
        self.assertEqual(shape_of(places((1, 1), (2, 2), (0, 0), (2, 0), (0, 2), (1, 0), (2, 1))), SQUARE)
        self.assertEqual(shape_of([(1, 1, 3), (1, 1, 2), (0, 0, 1), (1, 0, 1)]), ((0, 0, 1), (1, 0, 1), (1, 1, 2)))

    def test_of_no_area(self):
        for some in (
            places((3, 4)),
            places((3, 4), (3, 4)),
            places((3, 4), (1, 2)),
            places((3, 4), (1, 2), (3, 4)),
            places((0, 0), (2, 1), (4, 2), (-2, -1), (2, 1)),
            places((0, 0), (0, 5), (0, -7), (0, 5)),
            places((1, 5), (0, 5), (9, 5)),
            ((0, 0, 1), (1, 1, 3), (1, 1, 2), (GREAT, GREAT, GREAT - 1)),
            ((0, 0, 1), (GREAT, 1, 1), (2 * GREAT, 2, 1)),
        ):
            for row in (some, list(some), some[::-1]):
                self.assertIsNone(shape_of(row))

    def test_in_any_order_and_alike(self):
        for shape in SHAPES[:4]:
            within = at(*(sum(axis) / 3 for axis in zip(*map(spot, shape[:3]))))
            on_edge = at(*midst(shape[0], shape[-1]))
            for row in permutations(shape[:4] + (within, on_edge)):
                wanted = hull_shape([spot(one) for one in row])
                for some in (row, list(row), row + row[:2], [row[0]] * 3 + list(row)):
                    kept = list(some)
                    self.assertEqual(shape_of(some), wanted)
                    self.assertEqual(list(some), kept)

    def test_of_its_own_corners(self):
        for shape in SHAPES:
            told = shape_of(list(shape[::-1]))
            self.assertIs(type(told), tuple)
            self.assertEqual(told, shape)

    def test_many(self):
        chance = Random(15)
        for size in (1, 2, 3, 4, 5, 8, 12):
            for count in range(60):
                some = [at(chance.randint(-3, 3), Fraction(chance.randint(-6, 6), chance.randint(1, 3))) for k in range(size)]
                told = shape_of(some)
                self.assertEqual(told, hull_shape([spot(one) for one in some]))
                if told is not None:
                    self.assertIs(is_shape(told), True)

    def test_beside_great_pieces(self):
        a, b, beside = (0, 0, 1), (2 * GREAT, 2, 1), (GREAT - 1, 1, 1)
        self.assertEqual(shape_of([a, b, beside]), (a, b, beside))
        self.assertEqual(shape_of([a, b, (GREAT + 1, 1, 1)]), (a, (GREAT + 1, 1, 1), b))


class TestCutOff(unittest.TestCase):
    def check_both_ways(self, shape, a, b):
        """The two parts lie where they should and have together the whole area: so they are the parts."""
        whole = area(shape)
        left, right = cut_off(shape, a, b), cut_off(shape, b, a)
        for part, sense in ((left, 1), (right, -1)):
            if part is not None:
                self.assertIs(is_shape(part), True)
                for one in part:
                    self.assertTrue(in_shape(shape, spot(one)))
                    self.assertGreaterEqual(sense * spread(spot(a), spot(b), spot(one)), 0)
                self.assertGreater(area(part), 0)
        self.assertEqual(sum(area(part) for part in (left, right) if part is not None), whole)
        return left, right

    def test_by_hand(self):
        for a, b, left, right in (
            ((0, 1), (2, 1), ((0, 1), (2, 1), (2, 2), (0, 2)), ((0, 0), (2, 0), (2, 1), (0, 1))),
            ((1, 5), (1, 7), ((0, 0), (1, 0), (1, 2), (0, 2)), ((1, 0), (2, 0), (2, 2), (1, 2))),
            ((0, 0), (2, 2), ((0, 0), (2, 2), (0, 2)), ((0, 0), (2, 0), (2, 2))),
            ((3, 3), (-1, -1), ((0, 0), (2, 0), (2, 2)), ((0, 0), (2, 2), (0, 2))),
            ((0, 0), (1, 2), ((0, 0), (1, 2), (0, 2)), ((0, 0), (2, 0), (2, 2), (1, 2))),
            ((0, 1), (1, 0), ((0, 1), (1, 0), (2, 0), (2, 2), (0, 2)), ((0, 0), (1, 0), (0, 1))),
            # Along edges.
            ((0, 0), (2, 0), ((0, 0), (2, 0), (2, 2), (0, 2)), None),
            ((5, 2), (7, 2), None, ((0, 0), (2, 0), (2, 2), (0, 2))),
            ((2, 0), (2, 9), ((0, 0), (2, 0), (2, 2), (0, 2)), None),
            # Through one corner alone, and beside it.
            ((0, 2), (2, 4), None, ((0, 0), (2, 0), (2, 2), (0, 2))),
            ((1, 3), (3, 1), None, ((0, 0), (2, 0), (2, 2), (0, 2))),
            ((-1, 0), (-1, -5), ((0, 0), (2, 0), (2, 2), (0, 2)), None),
            ((0, 9), (1, 10), None, ((0, 0), (2, 0), (2, 2), (0, 2))),
        ):
            wanted = tuple(None if some is None else places(*some) for some in (left, right))
            self.assertEqual(self.check_both_ways(SQUARE, at(*a), at(*b)), wanted)

    def test_through_each_two(self):
        for shape in SHAPES:
            marks = list(shape)[:6] + [at(*midst(shape[k - 1], shape[k])) for k in range(min(4, len(shape)))]
            marks += [at(*midst(shape[0], shape[len(shape) // 2])), (5, 7, 3), (-GREAT, 1, 3)]
            for a in marks:
                for b in marks:
                    if a != b:
                        self.check_both_ways(shape, a, b)

    def test_just_beside(self):
        little = Fraction(1, 10**40)
        for height, there in ((2 - little, True), (Fraction(2), False), (2 + little, False)):
            left, right = self.check_both_ways(SQUARE, at(0, height), at(1, height))
            self.assertEqual((left is not None), there)
            self.assertEqual(right == SQUARE, not there)


TWELVE_PARTS = {(sx * a, sy * b) for a, b in ((5, 0), (4, 3), (3, 4), (0, 5)) for sx in (1, -1) for sy in (1, -1)}


class TestTwelve(unittest.TestCase):
    def test_by_hand(self):
        wanted = places(
            (-5, 0), (-4, -3), (-3, -4), (0, -5), (3, -4), (4, -3), (5, 0), (4, 3), (3, 4), (0, 5), (-3, 4), (-4, 3)
        )
        self.assertEqual(twelve((0, 0, 1), (5, 1)), wanted)
        self.assertEqual(twelve((1, 0, 2), (1, 1))[:2], ((-1, 0, 2), (-3, -6, 10)))

    def test_its_places(self):
        self.assertEqual(len(TWELVE_PARTS), 12)
        for one in ((0, 0, 1), (1, 2, 3), (-7, 5, 2), (GREAT, -1, GREAT - 1), (1, GREAT, 6)):
            for half in ((1, 1), (5, 1), (1, 2), (10, 3), (GREAT, 7), (1, GREAT)):
                told = twelve(one, half)
                x, y = spot(one)
                share = Fraction(*half) / 5
                self.assertIs(is_shape(told), True)
                self.assertEqual(len(told), 12)
                self.assertEqual(set(told), {at(x + share * a, y + share * b) for a, b in TWELVE_PARTS})
                self.assertEqual(told[0], at(x - 5 * share, y))


class TestBelongs(unittest.TestCase):
    def check(self, shape, where, belonging, within):
        one = at(*where)
        self.assertIs(belongs(shape, one), belonging)
        self.assertIs(is_within(shape, one), within)
        self.assertIs(in_area((shape,), one), belonging)

    def test_corners_and_edges(self):
        little = Fraction(1, 10**40)
        for shape in SHAPES:
            for k in range(len(shape)):
                a, b = shape[k - 1], shape[k]
                self.check(shape, spot(b), True, False)
                x, y = midst(a, b)
                self.check(shape, (x, y), True, False)
                (ax, ay), (bx, by) = spot(a), spot(b)
                self.check(shape, (bx + little * (bx - ax), by + little * (by - ay)), False, False)
                # A little to the left of an edge, and a little to the right.
                self.check(shape, (x - little * (by - ay), y + little * (bx - ax)), True, True)
                self.check(shape, (x + little * (by - ay), y - little * (bx - ax)), False, False)

    def test_a_grid(self):
        for shape in SHAPES[:5]:
            for x, y in product(range(-12, 13), repeat=2):
                where = Fraction(x, 2), Fraction(y, 2)
                self.check(shape, where, in_shape(shape, where), within_shape(shape, where))


class TestInArea(unittest.TestCase):
    def test_no_shapes(self):
        for one in places((0, 0), (1, 1), (-5, 7)):
            self.assertIs(in_area((), one), False)

    def test_several(self):
        apart = (SQUARE, places((3, 0), (4, 0), (4, 1)), places((2, 2), (3, 2), (3, 3), (2, 3)))
        for x, y in product(range(-2, 10), repeat=2):
            where = Fraction(x, 2), Fraction(y, 2)
            wanted = any(in_shape(shape, where) for shape in apart)
            for shapes in (apart, apart[::-1], apart + apart):
                self.assertIs(in_area(shapes, at(*where)), wanted)

    def test_on_the_edge_between_two(self):
        two = (SQUARE, places((2, 0), (4, 0), (4, 2), (2, 2)))
        self.assertIs(in_area(two, at(2, 1)), True)
        self.assertIs(in_area(two, at(2, 3)), False)


if __name__ == "__main__":
    unittest.main()
