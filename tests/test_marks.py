"""Points 42 and 43: parts, and marks by a pattern."""

import unittest
from copy import deepcopy
from fractions import Fraction
from itertools import product

from exactlines import CLOSED, GREAT, LEFT_TURN, OPEN, STRAIGHT, by_chance, closed_by_chance
from measure import pair, places
from test_measuring import lengths_to_ask, stations, wanted_place
from widelines.errors import TooMany
from widelines.lines import is_exact, is_line
from widelines.marks import mark_lengths, marks_of, part_of
from widelines.measuring import line_length

EXACT = OPEN + CLOSED + by_chance(42, 30) + closed_by_chance(43, 30)
PATTERNS = (
    (1, 1), (3, 2), (Fraction(1, 2), Fraction(1, 3)), (100, 1), (1, 100), (Fraction(7, 3), 5),
    (1, 2, 3, 4), (5, Fraction(1, 7), Fraction(1, 9), 2), (1, 1, 1, 1, 1, 1), (3, 1, 2, 1, 1, 6),
    (1, 2, 1, 2, 1, 2, 1, 2), (Fraction(1, 2), 1, Fraction(3, 2), 2, Fraction(5, 2), 3, Fraction(7, 2), 4),
)


def pairs(some):
    return tuple(pair(one) for one in some)


def wanted_part(line, begin, end):
    row = stations(line)
    between = [one for one, station in zip(line[1], row) if begin < station < end]
    return False, (wanted_place(line, begin), *between, wanted_place(line, end))


def wanted_marks(whole, pattern, offset):
    """Pattern by pattern from offset ahead of the first place on, nothing left out."""
    told = []
    here = -offset
    while here < whole:
        for k, size in enumerate(pattern):
            begin, end = max(here, 0), min(here + size, whole)
            if k % 2 == 0 and begin < end:
                told.append((begin, end))
            here += size
    return told


class TestPart(unittest.TestCase):
    def test_by_hand(self):
        line = (False, places((0, 0), (10, 0), (10, 10), (20, 10)))
        for begin, end, wanted in (
            (2, 5, ((2, 0), (5, 0))),
            (12, 15, ((10, 2), (10, 5))),
            (5, 12, ((5, 0), (10, 0), (10, 2))),
            (5, 22, ((5, 0), (10, 0), (10, 10), (12, 10))),
            (0, 10, ((0, 0), (10, 0))),
            (10, 20, ((10, 0), (10, 10))),
            (0, 20, ((0, 0), (10, 0), (10, 10))),
            (10, 25, ((10, 0), (10, 10), (15, 10))),
            (Fraction(19, 2), 10, ((Fraction(19, 2), 0), (10, 0))),
            (20, 30, ((10, 10), (20, 10))),
            (0, 30, ((0, 0), (10, 0), (10, 10), (20, 10))),
        ):
            self.assertEqual(part_of(line, pair(begin), pair(end)), (False, places(*wanted)))

    def test_closed_by_hand(self):
        line = (True, places((0, 0), (3, 0), (0, 4)))
        for begin, end, wanted in (
            (0, 12, ((0, 0), (3, 0), (0, 4), (0, 0))),
            (1, 12, ((1, 0), (3, 0), (0, 4), (0, 0))),
            (8, 12, ((0, 4), (0, 0))),
            (9, 11, ((0, 3), (0, 1))),
            (0, 11, ((0, 0), (3, 0), (0, 4), (0, 1))),
        ):
            self.assertEqual(part_of(line, pair(begin), pair(end)), (False, places(*wanted)))

    def test_the_whole(self):
        for line in EXACT:
            wanted = line[1] + line[1][:1] if line[0] else line[1]
            self.assertEqual(part_of(line, (0, 1), line_length(line)), (False, wanted))

    def test_a_closed_line_of_eight_places(self):
        line = CLOSED[7]
        self.assertEqual(len(line[1]), 8)
        told = part_of(line, (0, 1), line_length(line))
        self.assertEqual(len(told[1]), 9)
        self.assertIs(is_line(told), True)

    def test_straight_back(self):
        line = (False, places((0, 0), (10, 0), (4, 0)))
        self.assertEqual(part_of(line, (9, 1), (11, 1)), (False, places((9, 0), (10, 0), (9, 0))))

    def test_any(self):
        for line in EXACT[:60]:
            row = sorted(set(lengths_to_ask(line)))[::3]
            for begin, end in product(row, row):
                if begin < end:
                    told = part_of(line, pair(begin), pair(end))
                    self.assertEqual(told, wanted_part(line, begin, end))
                    self.assertTrue(is_line(told) and is_exact(told))
                    self.assertEqual(line_length(told), pair(end - begin))


class TestMarks(unittest.TestCase):
    def check(self, line, pattern, offset):
        told = mark_lengths(line, pairs(pattern), pair(offset))
        wanted = wanted_marks(Fraction(*line_length(line)), pattern, offset)
        self.assertIs(type(told), list)
        self.assertEqual(told, [(pair(begin), pair(end)) for begin, end in wanted], (line, pattern, offset))
        self.assertTrue(all(type(mark) is tuple for mark in told))
        parts = marks_of(line, pairs(pattern), pair(offset))
        self.assertIs(type(parts), list)
        self.assertEqual(parts, [part_of(line, begin, end) for begin, end in told])

    def test_by_hand(self):
        def asked(pattern, offset):
            return [(Fraction(*a), Fraction(*b)) for a, b in mark_lengths(STRAIGHT, pairs(pattern), pair(offset))]

        self.assertEqual(asked((3, 2), 0), [(0, 3), (5, 8)])
        self.assertEqual(asked((3, 2), 1), [(0, 2), (4, 7), (9, 10)])
        self.assertEqual(asked((3, 2), 3), [(2, 5), (7, 10)])
        self.assertEqual(asked((3, 2), 4), [(1, 4), (6, 9)])
        self.assertEqual(asked((3, 2), 5), [(0, 3), (5, 8)])
        self.assertEqual(asked((3, 2), 496), [(0, 2), (4, 7), (9, 10)])
        little = Fraction(1, 1000)
        self.assertEqual(asked((3, 2), 500 - little), [(little, 3 + little), (5 + little, 8 + little)])
        self.assertEqual(asked((1, 2, 3, 1), 0), [(0, 1), (3, 6), (7, 8)])
        self.assertEqual(asked((1, 2, 3, 1), 4), [(0, 2), (3, 4), (6, 9)])
        self.assertEqual(asked((1, 99), 1), [])
        self.assertEqual(asked((1, 9), 0), [(0, 1)])
        self.assertEqual(asked((10, 1), 0), [(0, 10)])
        self.assertEqual(asked((100, 1), 50), [(0, 10)])
        self.assertEqual(asked((100, 1), 95), [(0, 5), (6, 10)])
        self.assertEqual(asked((4, 6), 6), [(4, 8)])

    def test_parts_by_hand(self):
        told = marks_of(LEFT_TURN, ((4, 1), (4, 1)), (2, 1))
        wanted = [((0, 0), (2, 0)), ((6, 0), (10, 0)), ((10, 4), (10, 8))]
        self.assertEqual(told, [(False, places(*spots)) for spots in wanted])
        told = marks_of(LEFT_TURN, ((4, 1), (4, 1)), (0, 1))
        wanted = [((0, 0), (4, 0)), ((8, 0), (10, 0), (10, 2)), ((10, 6), (10, 10))]
        self.assertEqual(told, [(False, places(*spots)) for spots in wanted])

    def test_over_the_first_place_of_a_closed_line(self):
        line = (True, places((0, 0), (3, 0), (0, 4)))
        told = mark_lengths(line, ((4, 1), (2, 1)), (2, 1))
        self.assertEqual(told, [((0, 1), (2, 1)), ((4, 1), (8, 1)), ((10, 1), (12, 1))])
        told = marks_of(line, ((4, 1), (2, 1)), (2, 1))
        self.assertEqual(told[0], (False, places((0, 0), (2, 0))))
        self.assertEqual(told[2], (False, places((0, 2), (0, 0))))
        self.assertEqual(marks_of(line, ((50, 1), (2, 1)), (3, 1)), [(False, line[1] + line[1][:1])])

    def test_patterns_and_offsets(self):
        for line in OPEN[:11] + CLOSED:
            for pattern in PATTERNS:
                size = sum(map(Fraction, pattern))
                first = Fraction(pattern[0])
                for offset in (
                    0, first / 3, first, first + Fraction(pattern[1]) / 2, size - Fraction(1, 10**6), size,
                    size + first / 2, 7 * size + first, 100 * size - Fraction(1, 10**9),
                ):
                    self.check(line, pattern, Fraction(offset))

    def test_marks_that_but_touch_an_end(self):
        # A mark that ends at the first place or begins at the last one is none.
        for line in (STRAIGHT, LEFT_TURN, CLOSED[0]):
            whole = Fraction(*line_length(line))
            self.check(line, (2, 3), Fraction(2))
            self.check(line, (whole / 2, whole / 2), Fraction(0))
            self.check(line, (2, whole), Fraction(2))
            self.check(line, (whole, 1), Fraction(0))

    def test_nothing_between(self):
        self.assertEqual(mark_lengths(STRAIGHT, ((1, 1), (20, 1)), (5, 1)), [])
        self.assertEqual(marks_of(STRAIGHT, ((1, 1), (20, 1)), (5, 1)), [])

    def test_they_rise(self):
        for line in EXACT:
            for pattern in PATTERNS[:6]:
                if line_length(line)[0] < GREAT:
                    told = mark_lengths(line, pairs(pattern), (1, 3))
                    row = [Fraction(*one) for mark in told for one in mark]
                    self.assertEqual(row, sorted(set(row)))

    def test_the_lists_are_the_askers_own(self):
        for ask in (mark_lengths, marks_of):
            told = ask(STRAIGHT, ((1, 1), (1, 1)), (0, 1))
            kept = deepcopy(told)
            told.clear()
            self.assertEqual(ask(STRAIGHT, ((1, 1), (1, 1)), (0, 1)), kept)


class TestTooMany(unittest.TestCase):
    def refused(self, line, pattern, offset):
        for ask in (mark_lengths, marks_of):
            with self.assertRaises(TooMany) as taken:
                ask(line, pattern, offset)
            self.assertEqual(taken.exception.word, "marks")

    def let(self, line, pattern, offset, many):
        for ask in (mark_lengths, marks_of):
            self.assertEqual(len(ask(line, pattern, offset)), many)

    def test_just_two_hundred(self):
        for line in (STRAIGHT, (False, places((0, 0), (5, 0), (5, 5))), (True, places((0, 0), (3, 0), (3, 2), (0, 2)))):
            self.let(line, ((1, 40), (1, 40)), (0, 1), 200)
            # The two hundredth gap is cut off; the next mark would begin at the last place.
            self.let(line, ((1, 40), (1, 40)), (1, 40), 200)
            self.refused(line, ((1, 40), (1, 40)), (1, 80))
            self.refused(line, ((1, 41), (1, 40)), (0, 1))
            self.refused(line, ((1, 40), (1, 41)), (0, 1))

    def test_cut_off_marks_count(self):
        self.let(STRAIGHT, ((1, 20), (1, 10**20)), (0, 1), 200)
        self.refused(STRAIGHT, ((1, 20), (1, 10**20)), (1, 40))
        self.let(STRAIGHT, ((399, 8000), (1, 8000)), (0, 1), 200)
        self.refused(STRAIGHT, ((399, 8000), (1, 8000)), (1, 8000))

    def test_patterns_of_more(self):
        self.let(STRAIGHT, ((1, 40),) * 8, (0, 1), 200)
        self.refused(STRAIGHT, ((1, 40),) * 8, (1, 80))
        self.let(STRAIGHT, ((1, 40),) * 4, (99, 10), 200)

    def test_far_too_many(self):
        little = (1, GREAT)
        far = (False, ((0, 0, 1), (3 * GREAT, 4 * GREAT, 7)))
        self.refused(STRAIGHT, (little, little), (0, 1))
        self.refused(STRAIGHT, (little, little), (99, GREAT))
        self.refused(far, ((1, 1), (1, 1)), (0, 1))
        self.refused(far, (little,) * 8, (0, 1))

    def test_marks_ahead_of_the_line_dont_count(self):
        self.let(STRAIGHT, ((1, 1), (1, 1)) * 4, (799, 1), 5)
        self.let(STRAIGHT, ((1, 20), (1, 20)) * 4, (39, 1), 100)

    def test_nothing_is_changed(self):
        self.refused(STRAIGHT, ((1, 99), (1, 99)), (0, 1))
        self.let(STRAIGHT, ((1, 1), (1, 1)), (0, 1), 5)


if __name__ == "__main__":
    unittest.main()
