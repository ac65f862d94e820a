"""Point 10: fractions. Python's own Fraction and isqrt are the measure."""

import unittest
from fractions import Fraction
from math import gcd, isqrt

from things import FRACTIONS, NO_NUMBERS, OTHER_THINGS, check_answers, check_numbers, with_one_part_else
from widelines.numbers import fraction, is_below, is_fraction, less, plus, root, times

FEW = (0, 1, -1, 2, -2, 3, 4, -6, 7, -9, 12, 100, -360, 999)
TWENTY = (
    10**19,
    -(10**19) - 7,
    12345678901234567890,
    -98765432109876543210,
    2**63,
    -(2**64),
    2**63 * 3,
)
FORTY = (
    10**39,
    -(10**40),
    10**41 + 1,
    6**60,
    -(6**55) * 35,
    1234567890123456789012345678901234567890,
    (10**30 + 57) * (10**31 + 33),
    -(10**30 + 57) * 7,
    3**200,
)
NUMBERS = FEW + TWENTY + FORTY


class TestIsFraction(unittest.TestCase):
    def test_fractions(self):
        check_answers(self, is_fraction, FRACTIONS, True)

    def test_not_in_lowest_terms(self):
        some = ((0, 2), (0, 10**39), (2, 2), (2, 4), (-2, 4), (6, 9), (-9, 6), (10, 1000), (49, 7))
        some += ((10**39, 10**38), (2 * 10**38, 6), (3**70, 3**71), (3 * (10**20 + 39), 10**20 + 39))
        check_answers(self, is_fraction, some, False)

    def test_bottom_of_nought_or_below(self):
        some = ((0, 0), (1, 0), (-1, 0), (7, 0), (0, -1), (1, -1), (-1, -1), (1, -2), (-3, -2), (1, -(10**39)))
        check_answers(self, is_fraction, some, False)

    def test_no_whole_numbers(self):
        for good in ((1, 1), (0, 1), (1, 2), (-3, 7)):
            for other in NO_NUMBERS:
                check_answers(self, is_fraction, with_one_part_else(good, other), False)
        for other in NO_NUMBERS:
            check_answers(self, is_fraction, [(other, other)], False)

    def test_lists_and_texts_for_tuples(self):
        check_answers(self, is_fraction, [list(one) for one in FRACTIONS], False)
        check_answers(self, is_fraction, [f"{one[0]}/{one[1]}" for one in FRACTIONS], False)

    def test_too_few_and_too_many_parts(self):
        some = [one + (1,) for one in FRACTIONS] + [one[:1] for one in FRACTIONS] + [one * 2 for one in FRACTIONS]
        check_answers(self, is_fraction, some, False)

    def test_within_one_another(self):
        some = [(one,) for one in FRACTIONS] + [(one, 1) for one in FRACTIONS] + [(one, one) for one in FRACTIONS]
        some += [[one] for one in FRACTIONS] + [(1, one) for one in FRACTIONS]
        check_answers(self, is_fraction, some, False)

    def test_other_things(self):
        check_answers(self, is_fraction, OTHER_THINGS, False)


class FractionCase(unittest.TestCase):
    def check(self, told, wanted):
        check_numbers(self, told, 2)
        self.assertGreaterEqual(told[1], 1)
        self.assertEqual(gcd(told[0], told[1]), 1)
        self.assertEqual(told, (wanted.numerator, wanted.denominator))
        self.assertIs(is_fraction(told), True)


class TestFraction(FractionCase):
    def test_by_hand(self):
        for top, bottom, wanted in (
            (1, 2, (1, 2)),
            (2, 4, (1, 2)),
            (-2, 4, (-1, 2)),
            (2, -4, (-1, 2)),
            (-2, -4, (1, 2)),
            (6, 3, (2, 1)),
            (7, -7, (-1, 1)),
            (0, 5, (0, 1)),
            (0, -5, (0, 1)),
            (0, 10**45, (0, 1)),
            (5, 1, (5, 1)),
            (5, -1, (-5, 1)),
            (10**40, -(10**39), (-10, 1)),
            (10**39, 10**40, (1, 10)),
        ):
            self.assertEqual(fraction(top, bottom), wanted)

    def test_all_sizes_and_signs(self):
        for top in NUMBERS:
            for bottom in NUMBERS:
                if bottom != 0:
                    self.check(fraction(top, bottom), Fraction(top, bottom))
                    self.check(fraction(-top, -bottom), Fraction(top, bottom))
                    self.check(fraction(top, -bottom), Fraction(-top, bottom))

    def test_of_any_size(self):
        self.assertEqual(fraction(21 * 10**5000, -14 * 10**5000), (-3, 2))
        self.assertEqual(fraction(10**5000, 10**5000 - 1), (10**5000, 10**5000 - 1))
        self.assertEqual(fraction(-(6**2000), 15**2000), (-(2**2000), 5**2000))

    def test_a_fraction_stays(self):
        for one in FRACTIONS:
            self.check(fraction(one[0], one[1]), Fraction(*one))


class TestSums(FractionCase):
    def each_two(self):
        return [(one, other) for one in FRACTIONS for other in FRACTIONS]

    def test_by_hand(self):
        self.assertEqual(plus((1, 2), (1, 3)), (5, 6))
        self.assertEqual(plus((1, 6), (1, 3)), (1, 2))
        self.assertEqual(plus((1, 2), (1, 2)), (1, 1))
        self.assertEqual(less((1, 2), (1, 3)), (1, 6))
        self.assertEqual(less((1, 3), (1, 2)), (-1, 6))
        self.assertEqual(less((5, 6), (1, 3)), (1, 2))
        self.assertEqual(times((2, 3), (3, 4)), (1, 2))
        self.assertEqual(times((-2, 3), (3, 2)), (-1, 1))
        self.assertEqual(times((-2, 3), (-1, 2)), (1, 3))
        self.assertEqual(times((0, 1), (-5, 7)), (0, 1))

    def test_plus(self):
        for one, other in self.each_two():
            self.check(plus(one, other), Fraction(*one) + Fraction(*other))

    def test_less(self):
        for one, other in self.each_two():
            self.check(less(one, other), Fraction(*one) - Fraction(*other))

    def test_times(self):
        for one, other in self.each_two():
            self.check(times(one, other), Fraction(*one) * Fraction(*other))

    def test_sums_that_are_nought(self):
        for one in FRACTIONS:
            self.assertEqual(plus(one, (-one[0], one[1])), (0, 1))
            self.assertEqual(less(one, one), (0, 1))
            self.assertEqual(times(one, (0, 1)), (0, 1))
            self.assertEqual(times((0, 1), one), (0, 1))

    def test_nought_and_one_leave_it(self):
        for one in FRACTIONS:
            self.check(plus(one, (0, 1)), Fraction(*one))
            self.check(plus((0, 1), one), Fraction(*one))
            self.check(less(one, (0, 1)), Fraction(*one))
            self.check(less((0, 1), one), -Fraction(*one))
            self.check(times(one, (1, 1)), Fraction(*one))

    def test_what_was_told_may_be_handed_in_again(self):
        told, wanted = (1, 1), Fraction(1)
        for one in FRACTIONS:
            told, wanted = plus(times(told, (10**40 + 1, 3)), one), wanted * Fraction(10**40 + 1, 3) + Fraction(*one)
            self.check(told, wanted)


class TestIsBelow(unittest.TestCase):
    def test_by_hand(self):
        for one, other in (
            ((1, 3), (1, 2)),
            ((2, 3), (3, 4)),
            ((-1, 2), (-1, 3)),
            ((-1, 2), (1, 3)),
            ((-5, 1), (0, 1)),
            ((0, 1), (1, 10**45)),
            ((-1, 10**45), (0, 1)),
            ((10**40 - 1, 10**40), (1, 1)),
            ((10**40 - 1, 10**40), (10**40, 10**40 + 1)),
        ):
            self.assertIs(is_below(one, other), True)
            self.assertIs(is_below(other, one), False)

    def test_alike(self):
        for one in FRACTIONS:
            self.assertIs(is_below(one, tuple(list(one))), False)

    def test_each_two(self):
        for one in FRACTIONS:
            for other in FRACTIONS:
                self.assertIs(is_below(one, other), Fraction(*one) < Fraction(*other))


def square_or_none(one):
    top, bottom = isqrt(one[0]), isqrt(one[1])
    return (top, bottom) if top * top == one[0] and bottom * bottom == one[1] else None


class TestRoot(FractionCase):
    def test_by_hand(self):
        for one, wanted in (
            ((0, 1), (0, 1)),
            ((1, 1), (1, 1)),
            ((4, 1), (2, 1)),
            ((1, 4), (1, 2)),
            ((9, 4), (3, 2)),
            ((4, 9), (2, 3)),
            ((2, 1), None),
            ((3, 1), None),
            ((1, 2), None),
            ((1, 3), None),
            ((8, 1), None),
            ((4, 3), None),
            ((3, 4), None),
            ((2, 3), None),
            ((8, 9), None),
            ((9, 8), None),
        ):
            self.assertEqual(root(one), wanted)

    def test_below_nought(self):
        for one in ((-1, 1), (-4, 1), (-4, 9), (-1, 4), (-2, 1), (-(10**80), 1), (-(10**80), 9), (-1, 10**80)):
            self.assertIsNone(root(one))

    def test_small_whole_numbers(self):
        for number in range(3000):
            self.assertEqual(root((number, 1)), square_or_none((number, 1)))
            if number > 0:
                self.assertEqual(root((1, number)), square_or_none((1, number)))

    def test_squares(self):
        for one in FRACTIONS:
            told = root((one[0] ** 2, one[1] ** 2))
            self.check(told, abs(Fraction(*one)))
        for number in NUMBERS:
            self.assertEqual(root((number**2, 1)), (abs(number), 1))

    def test_one_more_or_less(self):
        for one in FRACTIONS:
            for top, bottom in ((1, 0), (0, 1), (-1, 0), (0, -1), (1, 1)):
                near = (one[0] ** 2 + top, one[1] ** 2 + bottom)
                if near[0] >= 0 and near[1] >= 1:
                    near = Fraction(*near)
                    near = (near.numerator, near.denominator)
                    self.assertEqual(root(near), square_or_none(near))

    def test_beside_great_squares(self):
        for number in TWENTY + FORTY:
            for beside in (1, -1, 2, 10**9):
                self.assertIsNone(root((number**2 + beside, 1)))
                self.assertIsNone(root((1, number**2 + beside)))

    def test_of_any_size(self):
        great = 7**3000
        self.assertEqual(root((great**2, 10**4000)), (great, 10**2000))
        self.assertIsNone(root((great**2 + 1, 1)))


class TestNothingIsKept(unittest.TestCase):
    def test_same_answers_in_any_order(self):
        asked = [(one, other) for one in FRACTIONS for other in FRACTIONS]

        def answers(some):
            return {two: (plus(*two), less(*two), times(*two), is_below(*two), root(two[0])) for two in some}

        self.assertEqual(answers(asked), answers(asked[::-1]))


if __name__ == "__main__":
    unittest.main()
