"""Point 30: rings, their turning, their sum."""

import unittest
from fractions import Fraction
from itertools import product
from math import atan2, tau
from random import Random

from measure import area, at, midst, on_piece, pair, places, spot
from things import FRACTIONS, NO_NUMBERS, OTHER_THINGS, check_answers, check_numbers, with_one_part_else
from widelines.turning import are_rings, ring_sum, turning

GREAT = 10**119

SQUARE = places((0, 0), (4, 0), (4, 4), (0, 4))
HOLE = places((1, 1), (1, 3), (3, 3), (3, 1))
TWICE = places((0, 0), (4, 0), (4, 4), (0, 4), (0, 0), (4, 0), (4, 4), (0, 4))
STAR = places((-4, 0), (2, -4), (0, 4), (-2, -4), (4, 1))
EIGHT = places((0, 0), (2, 2), (2, 0), (0, 2))
THERE_AND_BACK = places((0, 0), (4, 0), (2, 0))
PINCHED = places((0, 0), (2, 0), (1, 1), (2, 2), (0, 2), (1, 1))
RINGS = (
    (),
    (SQUARE,),
    (SQUARE[::-1],),
    (SQUARE[2:] + SQUARE[:2],),
    (SQUARE, HOLE),
    (SQUARE, HOLE[::-1]),
    (SQUARE, SQUARE),
    (SQUARE, SQUARE[::-1]),
    (TWICE,),
    (STAR,),
    (EIGHT,),
    (THERE_AND_BACK,),
    (places((0, 0), (4, 0), (0, 0), (4, 4)),),
    (PINCHED, STAR, EIGHT),
    (((0, 0, 1), (1, 1, 3), (1, 2, 2)),),
    (((0, 0, 1), (GREAT - 1, 1, GREAT), (1, GREAT, GREAT - 2)),),
    tuple(places((k, 0), (k + 1, 0), (k, 1)) for k in range(20)),
    (tuple(at(k, k * k) for k in range(60)),),
)


class TestAreRings(unittest.TestCase):
    def test_rings(self):
        check_answers(self, are_rings, RINGS, True)

    def test_alike_side_by_side(self):
        for ring in (SQUARE, HOLE, STAR, THERE_AND_BACK):
            some = [ring[:k] + ring[k:k + 1] + ring[k:] for k in range(len(ring))] + [ring + ring[:1]]
            some += [ring[:2] + ring[1:], ring[:1] * 3]
            check_answers(self, are_rings, [(one,) for one in some], False)
            check_answers(self, are_rings, [(SQUARE, one) for one in some] + [(one, SQUARE) for one in some], False)
        check_answers(self, are_rings, [(places((0, 0), (1, 0), (0, 0)),)], False)

    def test_too_few_places(self):
        for many in range(3):
            check_answers(self, are_rings, [(SQUARE[:many],), (SQUARE, SQUARE[:many]), (SQUARE[:many], SQUARE)], False)

    def test_lists(self):
        check_answers(self, are_rings, [[]], False)
        for ring in (SQUARE, STAR):
            some = [[ring], (list(ring),), (tuple(list(one) for one in ring),), (ring, list(ring)), ((ring,),), [list(ring)]]
            check_answers(self, are_rings, some, False)

    def test_a_ring_is_not_rings(self):
        check_answers(self, are_rings, [SQUARE, STAR, SQUARE + (SQUARE,)], False)

    def test_places_that_are_none(self):
        none = tuple((other, 0, 1) for other in NO_NUMBERS) + ((0, 0), (0, 0, 2), (2, 4, 6), (1, 1, 0), (1, 1, -1), None, 5)
        none += ((0, 0, True), (True, 1, 1), "0,0", [9, 9, 1])
        for other in none:
            some = with_one_part_else(SQUARE, other)
            check_answers(self, are_rings, [(one,) for one in some] + [(SQUARE, one) for one in some], False)

    def test_other_things(self):
        wrong = [thing for thing in OTHER_THINGS + FRACTIONS if thing != ()]
        check_answers(self, are_rings, wrong, False)
        check_answers(self, are_rings, [(thing,) for thing in OTHER_THINGS], False)
        check_answers(self, are_rings, [(SQUARE, thing) for thing in OTHER_THINGS], False)
        self.assertIs(are_rings((tuple((k, k * k, 1) for k in range(4000)),)), True)


def turning_by_angles(rings, where):
    told = 0
    for ring in rings:
        spots = [spot(one) for one in ring]
        whole = 0.0
        for a, b in zip(spots, spots[1:] + spots[:1]):
            if on_piece(a, b, where):
                return None
            one, other = ((p[0] - where[0], p[1] - where[1]) for p in (a, b))
            whole += atan2(one[0] * other[1] - one[1] * other[0], one[0] * other[0] + one[1] * other[1])
        told += round(whole / tau)
    return told


class TestTurning(unittest.TestCase):
    def check(self, rings, where, wanted):
        told = turning(rings, at(*where))
        self.assertEqual(told, wanted, (rings, where))
        self.assertIs(type(told), type(wanted))

    def test_by_hand(self):
        for rings, where, wanted in (
            ((), (0, 0), 0),
            ((SQUARE,), (2, 2), 1),
            ((SQUARE,), (5, 2), 0),
            ((SQUARE,), (5, 4), 0),
            ((SQUARE,), (5, 0), 0),
            ((SQUARE,), (-1, 0), 0),
            ((SQUARE,), (0, 5), 0),
            ((SQUARE,), (4, -1), 0),
            ((SQUARE,), (2, 0), None),
            ((SQUARE,), (4, 1), None),
            ((SQUARE,), (0, 0), None),
            ((SQUARE,), (4, 4), None),
            ((SQUARE[::-1],), (2, 2), -1),
            ((SQUARE[::-1],), (0, 2), None),
            ((SQUARE, HOLE), (2, 2), 0),
            ((SQUARE, HOLE), (Fraction(1, 2), 2), 1),
            ((SQUARE, HOLE), (1, 2), None),
            ((SQUARE, HOLE[::-1]), (2, 2), 2),
            ((SQUARE, SQUARE[::-1]), (2, 2), 0),
            ((SQUARE, SQUARE), (2, 2), 2),
            ((TWICE,), (2, 2), 2),
            ((TWICE,), (9, 2), 0),
            ((STAR,), (0, 0), 2),
            ((EIGHT,), (Fraction(1, 2), 1), 1),
            ((EIGHT,), (Fraction(3, 2), 1), -1),
            ((EIGHT,), (1, 1), None),
            ((THERE_AND_BACK,), (1, 0), None),
            ((THERE_AND_BACK,), (1, 1), 0),
            ((THERE_AND_BACK,), (5, 0), 0),
        ):
            self.check(rings, where, wanted)

    def test_grids(self):
        for rings in RINGS[:14]:
            for x, y in product(range(-9, 10), repeat=2):
                where = Fraction(x, 2), Fraction(y, 2)
                self.check(rings, where, turning_by_angles(rings, where))

    def test_by_chance(self):
        chance = Random(30)
        for count in range(300):
            row = [at(chance.randint(0, 4), chance.randint(0, 4)) for k in range(chance.randint(3, 9))]
            ring = tuple(one for k, one in enumerate(row) if one != row[k - 1])
            if are_rings((ring,)):
                for x, y in product(range(-1, 10), repeat=2):
                    where = Fraction(x, 2), Fraction(y, 2)
                    self.check((ring,), where, turning_by_angles((ring,), where))

    def test_just_beside(self):
        little = Fraction(1, 10**150)
        for k in range(4):
            x, y = midst(SQUARE[k - 1], SQUARE[k])
            way = (2 - x, 2 - y)
            self.check((SQUARE,), (x + little * way[0], y + little * way[1]), 1)
            self.check((SQUARE,), (x - little * way[0], y - little * way[1]), 0)

    def test_great_rings(self):
        ring = ((-GREAT, 0, 1), (GREAT, 1, 1), (0, GREAT, 1))
        self.check((ring,), (0, 1), 1)
        self.check((ring,), (0, Fraction(1, 2)), None)
        self.check((ring,), (0, Fraction(1, 3)), 0)


class TestRingSum(unittest.TestCase):
    def test_by_hand(self):
        for rings, wanted in (
            ((), (0, 1)),
            ((SQUARE,), (16, 1)),
            ((SQUARE[::-1],), (-16, 1)),
            ((SQUARE, HOLE), (12, 1)),
            ((SQUARE, HOLE[::-1]), (20, 1)),
            ((TWICE,), (32, 1)),
            ((EIGHT,), (0, 1)),
            ((THERE_AND_BACK,), (0, 1)),
            ((PINCHED,), (2, 1)),
            ((places((0, 0), (1, 0), (0, 1)),), (1, 2)),
            ((((0, 0, 1), (1, 0, 3), (0, 1, 5)),), (1, 30)),
            ((places((7, 7), (8, 7), (7, 8)), places((-1, 0), (0, 0), (0, 3))[::-1]), (-1, 1)),
        ):
            told = ring_sum(rings)
            check_numbers(self, told, 2)
            self.assertEqual(told, wanted)

    def test_each(self):
        for rings in RINGS:
            self.assertEqual(ring_sum(rings), pair(sum((area(ring) for ring in rings), Fraction(0))))

    def test_of_great_numbers(self):
        ring = tuple((k * GREAT + k, k * k * GREAT - 1, GREAT - 6 * k - 1) for k in range(1, 31))
        self.assertIs(are_rings((ring,)), True)
        self.assertEqual(ring_sum((ring,)), pair(area(ring)))


if __name__ == "__main__":
    unittest.main()
