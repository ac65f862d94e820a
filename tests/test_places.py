"""Point 11: places. Python's own Fraction is the measure."""

import unittest
from fractions import Fraction
from math import gcd

from things import FRACTIONS, NO_NUMBERS, OTHER_THINGS, check_answers, check_numbers, with_one_part_else
from widelines.places import across, is_lesser, is_on, is_place, place, squared, turn, up

GREAT = 10**40

PLACES = (
    (0, 0, 1),
    (1, 0, 1),
    (0, 1, 1),
    (-1, 0, 1),
    (0, -1, 1),
    (1, 1, 1),
    (1, 2, 2),
    (2, 1, 2),
    (1, 1, 2),
    (-1, -1, 2),
    (3, 2, 6),
    (2, 3, 6),
    (-7, 4, 5),
    (4, -7, 5),
    (12345678901234567890, -98765432109876543211, 7),
    (GREAT, 1, 1),
    (2 * GREAT, 2, 1),
    (2 * GREAT + 1, 2, 1),
    (1, GREAT, GREAT + 1),
    (-GREAT, 0, 3),
    (GREAT + 1, GREAT - 1, GREAT),
)


def spot(one):
    return Fraction(one[0], one[2]), Fraction(one[1], one[2])


def at(x, y):
    x, y = Fraction(x), Fraction(y)
    return place((x.numerator, x.denominator), (y.numerator, y.denominator))


class TestIsPlace(unittest.TestCase):
    def test_places(self):
        check_answers(self, is_place, PLACES, True)
        # Two of the three may have a divisor in common; only all three may not.
        some = ((2, 4, 1), (2, 4, 3), (2, 3, 4), (3, 2, 4), (6, 10, 15), (0, 0, 1), (0, 2, 3), (0, 3, 2), (2, 0, 3))
        check_answers(self, is_place, some, True)

    def test_not_in_lowest_terms(self):
        some = ((0, 0, 2), (0, 0, 10**39), (2, 4, 6), (2, 2, 2), (-2, 4, 2), (0, 2, 2), (2, 0, 4), (0, -3, 3))
        some += ((10, 15, 5), (10**39, 10**38, 10), (3 * GREAT, 6, 9), (7 * 3**50, 3**50, 3**51))
        check_answers(self, is_place, some, False)

    def test_bottom_of_nought_or_below(self):
        some = ((0, 0, 0), (1, 0, 0), (0, 1, 0), (1, 2, 0), (0, 0, -1), (1, 2, -1), (1, 2, -3), (-1, -1, -2))
        check_answers(self, is_place, some, False)

    def test_no_whole_numbers(self):
        for good in ((1, 1, 1), (0, 0, 1), (1, 0, 1), (1, 2, 3), (-3, 7, 2)):
            for other in NO_NUMBERS:
                check_answers(self, is_place, with_one_part_else(good, other), False)
        for other in NO_NUMBERS:
            check_answers(self, is_place, [(other, other, other)], False)

    def test_lists_and_texts_for_tuples(self):
        check_answers(self, is_place, [list(one) for one in PLACES], False)
        check_answers(self, is_place, [f"{one[0]},{one[1]}" for one in PLACES], False)

    def test_too_few_and_too_many_parts(self):
        some = [one + (1,) for one in PLACES] + [one[:2] for one in PLACES] + [one[:1] for one in PLACES]
        check_answers(self, is_place, some + list(FRACTIONS), False)

    def test_within_one_another(self):
        some = [(one,) for one in PLACES] + [(one, 1, 1) for one in PLACES] + [(one, one, one) for one in PLACES]
        some += [[one] for one in PLACES] + [((1, 2), (1, 2), 1), ((1, 2), (1, 2))]
        check_answers(self, is_place, some, False)

    def test_other_things(self):
        check_answers(self, is_place, OTHER_THINGS, False)


class TestCoordinates(unittest.TestCase):
    def test_by_hand(self):
        for x, y, wanted in (
            ((0, 1), (0, 1), (0, 0, 1)),
            ((1, 2), (1, 3), (3, 2, 6)),
            ((1, 2), (1, 2), (1, 1, 2)),
            ((1, 2), (3, 4), (2, 3, 4)),
            ((3, 4), (1, 2), (3, 2, 4)),
            ((1, 6), (1, 4), (2, 3, 12)),
            ((-1, 6), (5, 1), (-1, 30, 6)),
            ((5, 1), (-1, 6), (30, -1, 6)),
            ((0, 1), (-2, 3), (0, -2, 3)),
            ((2, 1), (4, 1), (2, 4, 1)),
        ):
            self.assertEqual(place(x, y), wanted)
            self.assertEqual(across(wanted), x)
            self.assertEqual(up(wanted), y)

    def test_there_and_back(self):
        for x in FRACTIONS:
            for y in FRACTIONS:
                told = place(x, y)
                check_numbers(self, told, 3)
                self.assertGreaterEqual(told[2], 1)
                self.assertEqual(gcd(*told), 1)
                self.assertIs(is_place(told), True)
                for coordinate, wanted in ((across(told), x), (up(told), y)):
                    check_numbers(self, coordinate, 2)
                    self.assertEqual(coordinate, wanted)

    def test_back_and_there(self):
        for one in PLACES:
            self.assertEqual(place(across(one), up(one)), one)
            self.assertEqual((Fraction(*across(one)), Fraction(*up(one))), spot(one))


class TestIsLesser(unittest.TestCase):
    def test_by_first_coordinates(self):
        for one, other in (
            ((0, 5, 1), (1, -5, 1)),
            ((1, 9, 3), (1, -9, 2)),
            ((-1, 0, 2), (-1, 0, 3)),
            ((-1, 7, 1), (0, 0, 1)),
            ((GREAT - 1, 1, GREAT), (1, 0, 1)),
        ):
            self.assertIs(is_lesser(one, other), True)
            self.assertIs(is_lesser(other, one), False)

    def test_then_by_second_ones(self):
        for one, other in (
            ((0, -1, 1), (0, 0, 1)),
            ((1, 0, 2), (1, 1, 2)),
            ((3, 2, 6), (1, 1, 2)),
            ((2, -5, 4), (1, -1, 2)),
            ((0, GREAT - 1, GREAT), (0, 1, 1)),
        ):
            self.assertIs(is_lesser(one, other), True)
            self.assertIs(is_lesser(other, one), False)

    def test_of_a_place_with_itself(self):
        for one in PLACES:
            self.assertIs(is_lesser(one, tuple(list(one))), False)

    def test_each_two(self):
        for one in PLACES:
            for other in PLACES:
                self.assertIs(is_lesser(one, other), spot(one) < spot(other))


def turn_by_fractions(a, b, c):
    (ax, ay), (bx, by), (cx, cy) = spot(a), spot(b), spot(c)
    spread = (bx - ax) * (cy - ay) - (by - ay) * (cx - ax)
    return (spread > 0) - (spread < 0)


class TestTurn(unittest.TestCase):
    def test_by_hand(self):
        a, b = (0, 0, 1), (4, 2, 1)
        for c, wanted in (
            ((0, 1, 1), 1),
            ((2, 2, 1), 1),
            ((5, 3, 1), 1),
            ((1, 0, 1), -1),
            ((2, 0, 1), -1),
            ((-1, -1, 1), -1),
            ((2, 1, 1), 0),
            ((2, 1, 2), 0),
            ((8, 4, 1), 0),
            ((-2, -1, 1), 0),
            ((-2, -1, 3), 0),
            (a, 0),
            (b, 0),
        ):
            told = turn(a, b, c)
            self.assertIs(type(told), int)
            self.assertEqual(told, wanted)
            self.assertEqual(turn(b, a, c), -wanted)

    def test_straight_up_and_across(self):
        here, up_there, over_there = (1, 1, 2), (1, 9, 2), (9, 1, 2)
        self.assertEqual(turn(here, up_there, (0, 1, 1)), 1)
        self.assertEqual(turn(here, up_there, (1, 1, 1)), -1)
        self.assertEqual(turn(here, up_there, (1, -4, 2)), 0)
        self.assertEqual(turn(here, over_there, (3, 1, 1)), 1)
        self.assertEqual(turn(here, over_there, (3, 0, 1)), -1)
        self.assertEqual(turn(here, over_there, (-3, 1, 2)), 0)

    def test_beside_great_lines(self):
        a, b = (0, 0, 1), (GREAT, 1, 1)
        self.assertEqual(turn(a, b, (2 * GREAT, 2, 1)), 0)
        self.assertEqual(turn(a, b, (2 * GREAT + 1, 2, 1)), -1)
        self.assertEqual(turn(a, b, (2 * GREAT - 1, 2, 1)), 1)
        self.assertEqual(turn(a, b, (GREAT, 1, 2)), 0)
        self.assertEqual(turn(a, b, (GREAT + 1, 1, 2)), -1)
        self.assertEqual(turn(a, b, (-GREAT, -1, 3)), 0)

    def test_each_three(self):
        for a in PLACES:
            for b in PLACES:
                if a != b:
                    for c in PLACES:
                        self.assertEqual(turn(a, b, c), turn_by_fractions(a, b, c))


ENDS = (
    ((0, 0, 1), (4, 2, 1)),
    ((0, 0, 1), (-4, 2, 1)),
    ((0, 0, 1), (3, 0, 1)),
    ((0, 0, 1), (0, 3, 1)),
    ((1, 1, 2), (-5, 7, 3)),
    ((1, 1, 2), (1, 9, 2)),
    ((-1, 1, 3), (8, 1, 3)),
    ((GREAT, 1, 3), (-7, GREAT, 9)),
    ((1, GREAT, GREAT + 1), (2, 1, GREAT)),
)


class TestIsOn(unittest.TestCase):
    def check(self, a, b, one, wanted):
        self.assertIs(is_on(a, b, one), wanted)
        self.assertIs(is_on(b, a, one), wanted)

    def test_ends(self):
        for a, b in ENDS:
            self.check(a, b, a, True)
            self.check(a, b, b, True)

    def test_between_beyond_and_beside(self):
        little = Fraction(1, 10**50)
        for a, b in ENDS:
            (ax, ay), (bx, by) = spot(a), spot(b)
            wide, high = bx - ax, by - ay
            for share in (little, Fraction(1, 3), Fraction(1, 2), Fraction(2, 3), 1 - little):
                x, y = ax + share * wide, ay + share * high
                self.check(a, b, at(x, y), True)
                self.check(a, b, at(x - little * high, y + little * wide), False)
                self.check(a, b, at(x + high, y - wide), False)
            for share in (-little, Fraction(-1), Fraction(-5, 3), 1 + little, Fraction(2), Fraction(9, 2)):
                self.check(a, b, at(ax + share * wide, ay + share * high), False)
            self.check(a, b, at(ax - high, ay + wide), False)
            self.check(a, b, at(bx + high, by - wide), False)

    def test_by_hand(self):
        a, b = (0, 0, 1), (4, 2, 1)
        self.check(a, b, (2, 1, 1), True)
        self.check(a, b, (2, 1, 2), True)
        self.check(a, b, (6, 3, 1), False)
        self.check(a, b, (-2, -1, 1), False)
        self.check(a, b, (2, 2, 1), False)
        self.check(a, b, (2, 0, 1), False)


class TestSquared(unittest.TestCase):
    def test_by_hand(self):
        for one, other, wanted in (
            ((0, 0, 1), (3, 4, 1), (25, 1)),
            ((1, 1, 1), (-2, 5, 1), (25, 1)),
            ((0, 0, 1), (1, 1, 1), (2, 1)),
            ((1, 1, 2), (0, 0, 1), (1, 2)),
            ((1, 0, 2), (0, 1, 3), (13, 36)),
            ((1, 3, 6), (1, 0, 6), (1, 4)),
            ((0, 0, 1), (0, -7, 2), (49, 4)),
            ((0, 0, 1), (3 * GREAT, 4 * GREAT, 1), (25 * GREAT**2, 1)),
        ):
            self.assertEqual(squared(one, other), wanted)

    def test_each_two(self):
        for one in PLACES:
            for other in PLACES:
                told = squared(one, other)
                (x, y), (left, high) = spot(one), spot(other)
                wanted = (x - left) ** 2 + (y - high) ** 2
                check_numbers(self, told, 2)
                self.assertEqual(told, (wanted.numerator, wanted.denominator))
                self.assertEqual(squared(other, one), told)

    def test_of_a_place_with_itself(self):
        for one in PLACES:
            self.assertEqual(squared(one, tuple(list(one))), (0, 1))


class TestNothingIsKept(unittest.TestCase):
    def test_same_answers_in_any_order(self):
        asked = [(one, other) for one in PLACES for other in PLACES if one != other]

        def answers(some):
            return {two: (is_lesser(*two), squared(*two), turn(*two, (1, 2, 3)), across(two[0])) for two in some}

        self.assertEqual(answers(asked), answers(asked[::-1]))


if __name__ == "__main__":
    unittest.main()
