"""Point 44: lines split and joined."""

import unittest
from fractions import Fraction

from exactlines import CLOSED, GREAT, LEFT_TURN, NINE, OPEN, STRAIGHT, STRAIGHT_BACK, by_chance
from measure import at, pair, places
from test_measuring import lengths_to_ask
from widelines.errors import NoJoin
from widelines.joining import joined, split
from widelines.lines import is_exact, is_line
from widelines.marks import part_of
from widelines.measuring import line_length

LINES = OPEN + by_chance(44, 60)


def way(*spots):
    return False, places(*spots)


class TestSplit(unittest.TestCase):
    def test_by_hand(self):
        for length, one, other in (
            (4, ((0, 0), (4, 0)), ((4, 0), (10, 0), (10, 10))),
            (10, ((0, 0), (10, 0)), ((10, 0), (10, 10))),
            (13, ((0, 0), (10, 0), (10, 3)), ((10, 3), (10, 10))),
            (Fraction(1, GREAT), ((0, 0), (Fraction(1, GREAT), 0)), ((Fraction(1, GREAT), 0), (10, 0), (10, 10))),
        ):
            self.assertEqual(split(LEFT_TURN, pair(length)), (way(*one), way(*other)))

    def test_both_are_parts(self):
        for line in LINES:
            whole = line_length(line)
            for length in lengths_to_ask(line):
                if 0 < length < Fraction(*whole):
                    told = split(line, pair(length))
                    self.assertIs(type(told), tuple)
                    self.assertEqual(told, (part_of(line, (0, 1), pair(length)), part_of(line, pair(length), whole)))
                    for part in told:
                        self.assertTrue(is_line(part) and is_exact(part))

    def test_split_and_joined(self):
        for line in LINES:
            for length in lengths_to_ask(line):
                if 0 < length < Fraction(*line_length(line)):
                    one, other = split(line, pair(length))
                    self.assertEqual(joined(one, other), line)

    def test_split_twice_and_joined(self):
        for line in LINES:
            whole = Fraction(*line_length(line))
            first, rest = split(line, pair(whole / 3))
            second, third = split(rest, pair(whole / 4))
            self.assertEqual(joined(joined(first, second), third), line)
            self.assertEqual(joined(first, joined(second, third)), line)


class TestJoined(unittest.TestCase):
    def refused(self, one, other, word):
        with self.assertRaises(NoJoin) as taken:
            joined(one, other)
        self.assertEqual(taken.exception.word, word)

    def test_by_hand(self):
        self.assertEqual(joined(way((0, 0), (1, 0)), way((1, 0), (1, 1))), way((0, 0), (1, 0), (1, 1)))
        one, other = way((0, 0), (1, 0), (2, 5)), way((2, 5), (1, 1), (0, 0))
        self.assertEqual(joined(one, other), way((0, 0), (1, 0), (2, 5), (1, 1), (0, 0)))

    def test_straight_on(self):
        self.assertEqual(joined(way((0, 0), (1, 0)), way((1, 0), (3, 0))), way((0, 0), (3, 0)))
        one, other = way((5, 5), (0, 0), (2, 1)), way((2, 1), (6, 3), (0, 9))
        self.assertEqual(joined(one, other), way((5, 5), (0, 0), (6, 3), (0, 9)))
        self.assertEqual(joined(way((0, 0), (0, -1)), way((0, -1), (0, -7))), way((0, 0), (0, -7)))
        one, other = (False, ((0, 0, 1), (1, 1, 3))), (False, ((1, 1, 3), (1, 1, 2), (0, 1, 1)))
        self.assertEqual(joined(one, other), (False, ((0, 0, 1), (1, 1, 2), (0, 1, 1))))

    def test_next_to_straight_on(self):
        one = way((0, 0), (GREAT, 1))
        self.assertEqual(joined(one, way((GREAT, 1), (2 * GREAT, 2))), way((0, 0), (2 * GREAT, 2)))
        self.assertEqual(
            joined(one, way((GREAT, 1), (2 * GREAT + 1, 2))), way((0, 0), (GREAT, 1), (2 * GREAT + 1, 2))
        )

    def test_straight_back(self):
        self.assertEqual(joined(way((0, 0), (3, 0)), way((3, 0), (1, 0))), way((0, 0), (3, 0), (1, 0)))
        self.assertEqual(joined(way((0, 0), (3, 0)), way((3, 0), (0, 0))), way((0, 0), (3, 0), (0, 0)))
        self.assertEqual(joined(way((0, 0), (3, 0)), way((3, 0), (-9, 0))), way((0, 0), (3, 0), (-9, 0)))
        self.assertEqual(joined(STRAIGHT, way((10, 0), (4, 0))), STRAIGHT_BACK)

    def test_lines_that_are_not_exact(self):
        self.assertEqual(joined(way((0, 0), (1, 1)), way((1, 1), (2, 0))), way((0, 0), (1, 1), (2, 0)))
        self.assertEqual(joined(way((0, 0), (1, 1)), way((1, 1), (3, 3))), way((0, 0), (3, 3)))

    def test_a_way_that_ends_where_it_began(self):
        one, other = way((0, 0), (3, 0)), way((3, 0), (3, 4), (0, 0))
        self.assertEqual(joined(one, other), way((0, 0), (3, 0), (3, 4), (0, 0)))
        self.assertEqual(joined(other, one), way((3, 0), (3, 4), (0, 0), (3, 0)))

    def test_what_is_told_is_a_line(self):
        for one in LINES:
            for other in LINES:
                if one[1][-1] == other[1][0] and len(one[1]) + len(other[1]) <= 10:
                    self.assertIs(is_line(joined(one, other)), True)

    def test_another_place(self):
        self.refused(way((0, 0), (1, 0)), way((0, 0), (1, 0)), "place")
        self.refused(way((0, 0), (1, 0)), way((2, 0), (1, 0)), "place")
        self.refused(way((1, 0), (0, 0)), way((1, 0), (2, 0)), "place")
        self.refused(STRAIGHT, (False, (at(10, Fraction(1, GREAT)), at(0, 5))), "place")

    def test_too_many(self):
        def zigzag(begin, many):
            return way(*[(k, k % 2) for k in range(begin, begin + many)])

        for many in range(2, 9):
            told = joined(zigzag(0, many), zigzag(many - 1, 10 - many))
            self.assertEqual(told, zigzag(0, 9))
            self.refused(zigzag(0, many), zigzag(many - 1, 11 - many), "many")
        self.refused(zigzag(0, 9), zigzag(8, 9), "many")
        self.refused(zigzag(0, 9), zigzag(8, 2), "many")

    def test_straight_on_makes_room(self):
        row = [(k, k % 2) for k in range(9)]
        for k in range(8):
            middle = (Fraction(2 * k + 1, 2), Fraction(1, 2))
            one, other = way(*row[:k + 1], middle), way(middle, *row[k + 1:])
            self.assertEqual(joined(one, other), way(*row))
            self.refused(one, way(middle, *row[k + 1:], (9, 1)), "many")
        # Straight back through the same place makes none.
        self.refused(NINE, way((32, 0), (28, 3)), "many")
        self.assertEqual(joined(NINE, way((32, 0), (36, -3))), (False, NINE[1][:8] + places((36, -3))))

    def test_place_goes_ahead_of_many(self):
        self.refused(NINE, NINE, "place")
        self.refused(NINE, (False, NINE[1][::-1][1:]), "place")
        self.refused(NINE, (False, NINE[1][::-1]), "many")

    def test_whole_closed_lines(self):
        for line in CLOSED:
            part = part_of(line, (0, 1), line_length(line))
            one, other = split(part, pair(Fraction(*line_length(line)) / 5))
            self.assertEqual(joined(one, other), part)


if __name__ == "__main__":
    unittest.main()
