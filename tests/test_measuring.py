"""Point 40: lengths, places at lengths, bounds."""

import unittest
from fractions import Fraction
from math import isqrt

from exactlines import CLOSED, GREAT, LEFT_TURN, OPEN, STRAIGHT, by_chance, closed_by_chance
from measure import added, at, direction, distance, pair, places, spot
from things import check_numbers
from widelines.lines import is_line, pieces
from widelines.measuring import bounds, line_length, place_at

EXACT = OPEN + CLOSED + by_chance(40, 60) + closed_by_chance(41, 60)
OTHERS = (
    (False, places((0, 0), (1, 1))),
    (False, places((0, 0), (1, 1), (1, 2), (0, 0))),
    (True, places((0, 0), (3, 0), (0, 3))),
    (True, places((0, 0), (1, 0), (2, 3), (-1, 5))),
    (False, ((1, 1, 2), (5, 6, 3), (7, 1, 9))),
    (False, ((GREAT, 1, 3), (-GREAT, 2, 7), (5, GREAT, GREAT - 1))),
    (False, ((0, 0, 1), (1, 1, GREAT), (1, 0, GREAT - 1))),
)


def spots_along(line):
    row = [spot(one) for one in line[1]]
    return row + row[:1] if line[0] else row


def stations(line):
    """The lengths at which the places of a line are, of a closed one its whole length last."""
    row = spots_along(line)
    told = [Fraction(0)]
    for a, b in zip(row, row[1:]):
        told.append(told[-1] + distance(a, b))
    return told


def wanted_place(line, length):
    row = spots_along(line)
    rest = length
    for a, b in zip(row, row[1:]):
        size = distance(a, b)
        if rest <= size:
            return at(*added(a, direction(a, b), rest))
        rest -= size
    raise AssertionError(length)


def lengths_to_ask(line):
    row = stations(line)
    told = list(row)
    for a, b in zip(row, row[1:]):
        told += [(a + b) / 2, a + (b - a) / 7, b - (b - a) / 10**9, a + (b - a) / 10**9]
    return told


class TestLength(unittest.TestCase):
    def test_by_hand(self):
        for line, wanted in (
            (STRAIGHT, (10, 1)),
            (LEFT_TURN, (20, 1)),
            ((False, places((0, 0), (10, 0), (4, 0))), (16, 1)),
            ((False, places((0, 0), (3, 0), (0, 4))), (8, 1)),
            ((True, places((0, 0), (3, 0), (0, 4))), (12, 1)),
            ((True, places((0, 0), (5, 0), (0, 0), (0, 5))), (20, 1)),
            ((False, ((0, 0, 1), (3, 4, 10), (3, 6, 10))), (7, 10)),
        ):
            self.assertEqual(line_length(line), wanted)

    def test_sums(self):
        for line in EXACT:
            told = line_length(line)
            check_numbers(self, told, 2)
            self.assertEqual(told, pair(stations(line)[-1]))

    def test_unlike_bottoms(self):
        line = (False, ((0, 0, 1), (1, 0, 2), (3, 2, 6), (4, 1, 3)))
        self.assertIs(is_line(line), True)
        self.assertEqual(line_length(line), pair(Fraction(1, 2) + Fraction(1, 3) + Fraction(5, 6)))


class TestPlaceAt(unittest.TestCase):
    def test_by_hand(self):
        line = (False, places((0, 0), (3, 4), (3, 0)))
        for length, wanted in (
            ((0, 1), (0, 0, 1)), ((5, 2), (3, 4, 2)), ((5, 1), (3, 4, 1)), ((6, 1), (3, 3, 1)), ((9, 1), (3, 0, 1)),
            ((1, 1), (3, 4, 5)), ((1, 3), (3, 4, 15)), ((26, 3), (9, 1, 3)),
        ):
            self.assertEqual(place_at(line, length), wanted)

    def test_closed_by_hand(self):
        line = (True, places((0, 0), (3, 0), (0, 4)))
        for length, wanted in (
            ((0, 1), (0, 0, 1)), ((3, 1), (3, 0, 1)), ((8, 1), (0, 4, 1)), ((11, 1), (0, 1, 1)), ((12, 1), (0, 0, 1)),
            ((11 * GREAT + 1, GREAT), (0, GREAT - 1, GREAT)),
        ):
            self.assertEqual(place_at(line, length), wanted)

    def test_both_ends_and_the_places(self):
        for line in EXACT:
            self.assertEqual(place_at(line, (0, 1)), line[1][0])
            whole = line_length(line)
            self.assertEqual(place_at(line, whole), line[1][0] if line[0] else line[1][-1])
            for one, station in zip(line[1], stations(line)):
                self.assertEqual(place_at(line, pair(station)), one)

    def test_between(self):
        for line in EXACT:
            for length in lengths_to_ask(line):
                told = place_at(line, pair(length))
                check_numbers(self, told, 3)
                self.assertEqual(told, wanted_place(line, length))


class TestBounds(unittest.TestCase):
    def test_by_hand(self):
        for line, low, high in (
            # Lengths that are a whole number of thousandths.
            (STRAIGHT, (10, 1), (10001, 1000)),
            (LEFT_TURN, (20, 1), (10001, 500)),
            ((False, ((0, 0, 1), (1, 0, 1000))), (1, 1000), (1, 500)),
            ((True, places((0, 0), (3, 0), (0, 4))), (12, 1), (12003, 1000)),
            # Lengths that are fractions, and such that are none.
            ((False, ((0, 0, 1), (1, 0, 3))), (333, 1000), (167, 500)),
            ((False, ((0, 0, 1), (1, 0, 1001))), (0, 1), (1, 1000)),
            ((False, ((0, 0, 1), (0, 2999, 3000))), (999, 1000), (1, 1)),
            ((False, places((0, 0), (1, 1))), (707 * 2, 1000), None),
            ((False, places((0, 0), (1, 2))), (2236, 1000), None),
            ((True, places((0, 0), (1, 0), (0, 1))), (1000 + 1414 + 1000, 1000), None),
        ):
            told = bounds(line)
            self.assertIs(type(told), tuple)
            self.assertEqual(len(told), 2)
            many = len(pieces(line))
            self.assertEqual(Fraction(*told[0]), Fraction(*low))
            self.assertEqual(Fraction(*told[1]), Fraction(*low) + Fraction(many, 1000))
            if high is not None:
                self.assertEqual(told, (low, high))

    def test_each_piece(self):
        for line in EXACT + OTHERS:
            lows = highs = Fraction(0)
            for a, b in pieces(line):
                told = bounds((False, (a, b)))
                check_numbers(self, told[0], 2)
                check_numbers(self, told[1], 2)
                low, high = Fraction(*told[0]), Fraction(*told[1])
                (ax, ay), (bx, by) = spot(a), spot(b)
                square = (bx - ax) ** 2 + (by - ay) ** 2
                self.assertTrue(low * low <= square < high * high)
                self.assertEqual((low * 1000).denominator, 1)
                self.assertEqual(high - low, Fraction(1, 1000))
                lows, highs = lows + low, highs + high
            self.assertEqual(bounds(line), (pair(lows), pair(highs)))

    def test_they_bound_the_length(self):
        for line in EXACT:
            low, high = (Fraction(*one) for one in bounds(line))
            self.assertTrue(low <= Fraction(*line_length(line)) < high)

    def test_just_below_a_thousandth(self):
        # The length is the root of k * k - 1 thousandths: no rounding reaches k.
        for k in (2, 1000, 10**15):
            x = isqrt(k * k - 1)
            line = (False, ((0, 0, 1), at(Fraction(x, 1000), 0)))
            self.assertEqual(bounds(line)[0], pair(Fraction(x, 1000)))
        line = (False, ((0, 0, 1), at(Fraction(10**20 - 1, 10**20), 0)))
        self.assertEqual(bounds(line), ((999, 1000), (1, 1)))


if __name__ == "__main__":
    unittest.main()
