"""Point 48: what two pieces have in common, and the crossings of a line."""

import unittest
from fractions import Fraction
from itertools import combinations, product

from exactlines import CLOSED, GREAT, OPEN, by_chance, closed_by_chance
from measure import at, places, spot, spread
from things import check_numbers
from widelines.crossings import common, crossings
from widelines.lines import is_line, pieces

LINES = OPEN + CLOSED + by_chance(48, 80) + closed_by_chance(48, 80)


def piece(*spots):
    return places(*spots)


def common_by_shares(one, other):
    """By the shares of the first piece at which the other one is met."""
    (a, b), (c, d) = [[spot(end) for end in ends] for ends in (one, other)]
    u, v = (b[0] - a[0], b[1] - a[1]), (d[0] - c[0], d[1] - c[1])
    cross = u[0] * v[1] - u[1] * v[0]
    w = c[0] - a[0], c[1] - a[1]
    if cross != 0:
        here = (w[0] * v[1] - w[1] * v[0]) / cross
        there = (w[0] * u[1] - w[1] * u[0]) / cross
        if 0 <= here <= 1 and 0 <= there <= 1:
            return "at", at(a[0] + here * u[0], a[1] + here * u[1])
        return None
    if spread(a, b, c) != 0:
        return None
    size = u[0] ** 2 + u[1] ** 2
    shares = sorted(((p[0] - a[0]) * u[0] + (p[1] - a[1]) * u[1]) / size for p in (c, d))
    low, high = max(shares[0], 0), min(shares[1], 1)
    if low > high:
        return None
    ends = sorted((a[0] + share * u[0], a[1] + share * u[1]) for share in {low, high})
    return ("at" if len(ends) == 1 else "along", *[at(*p) for p in ends])


class TestCommon(unittest.TestCase):
    def check(self, one, other, wanted):
        for first, second in product((one, one[::-1]), (other, other[::-1])):
            self.assertEqual(common(first, second), wanted)
            self.assertEqual(common(second, first), wanted)

    def test_apart(self):
        one = piece((0, 0), (4, 0))
        for other in (
            piece((0, 1), (4, 1)),
            piece((5, 0), (7, 0)),
            piece((-1, 0), (-7, 0)),
            piece((5, -1), (5, 1)),
            piece((2, 1), (2, 5)),
            piece((2, Fraction(1, GREAT)), (3, 5)),
            piece((4 + Fraction(1, GREAT), 0), (3, 5)),
            piece((4, 1), (6, -1)),
        ):
            self.check(one, other, None)
        self.check(piece((0, 0), (0, 4)), piece((0, 5), (0, 7)), None)

    def test_crossing(self):
        self.check(piece((0, 0), (4, 4)), piece((0, 4), (4, 0)), ("at", (2, 2, 1)))
        self.check(piece((0, 0), (4, 0)), piece((1, -1), (2, 2)), ("at", at(Fraction(4, 3), 0)))
        self.check(piece((0, 0), (1, 1)), piece((0, 1), (2, 0)), ("at", (2, 2, 3)))

    def test_touching(self):
        one = piece((0, 0), (4, 0))
        self.check(one, piece((2, 0), (3, 5)), ("at", (2, 0, 1)))
        self.check(one, piece((2, 0), (2, -5)), ("at", (2, 0, 1)))
        self.check(one, piece((4, 0), (3, 5)), ("at", (4, 0, 1)))
        self.check(one, piece((0, 0), (-3, 5)), ("at", (0, 0, 1)))
        self.check(one, piece((0, -5), (0, 5)), ("at", (0, 0, 1)))
        self.check(one, piece((4, 0), (9, 0)), ("at", (4, 0, 1)))
        self.check(one, piece((-9, 0), (0, 0)), ("at", (0, 0, 1)))
        self.check(piece((1, 1), (1, 5)), piece((1, 5), (1, 6)), ("at", (1, 5, 1)))

    def test_along(self):
        one = piece((0, 0), (4, 0))
        self.check(one, one, ("along", (0, 0, 1), (4, 0, 1)))
        self.check(one, piece((1, 0), (3, 0)), ("along", (1, 0, 1), (3, 0, 1)))
        self.check(one, piece((-1, 0), (9, 0)), ("along", (0, 0, 1), (4, 0, 1)))
        self.check(one, piece((2, 0), (9, 0)), ("along", (2, 0, 1), (4, 0, 1)))
        self.check(one, piece((0, 0), (1, 0)), ("along", (0, 0, 1), (1, 0, 1)))
        self.check(one, piece((4, 0), (1, 0)), ("along", (1, 0, 1), (4, 0, 1)))
        self.check(piece((1, 1), (1, -4)), piece((1, 0), (1, 8)), ("along", (1, 0, 1), (1, 1, 1)))
        self.check(piece((0, 0), (6, 9)), piece((2, 3), (4, 6)), ("along", (2, 3, 1), (4, 6, 1)))
        self.check(piece((0, 6), (6, 0)), piece((2, 4), (9, -3)), ("along", (2, 4, 1), (6, 0, 1)))

    def test_great_numbers(self):
        one = ((0, 0, 1), (GREAT, 1, 1))
        self.check(one, ((GREAT, 1, 1), (2 * GREAT, 2, 1)), ("at", (GREAT, 1, 1)))
        self.check(one, ((GREAT, 1, 2), (2 * GREAT, 2, 1)), ("along", (GREAT, 1, 2), (GREAT, 1, 1)))
        self.check(one, ((GREAT, 1, 2), (2 * GREAT + 1, 2, 1)), ("at", (GREAT, 1, 2)))
        self.check(one, ((GREAT - 1, 1, 1), (GREAT, 2, 1)), None)

    def test_all_of_a_small_grid(self):
        spots = [at(Fraction(x, 2), y) for x, y in product(range(3), range(3))]
        some = [(a, b) for a, b in product(spots, spots) if a != b]
        told = set()
        for one, other in product(some, some):
            answer = common(one, other)
            self.assertEqual(answer, common_by_shares(one, other), (one, other))
            if answer is not None:
                self.assertIs(type(answer), tuple)
                told.add(answer[0])
                for part in answer[1:]:
                    check_numbers(self, part, 3)
        self.assertEqual(told, {"at", "along"})


def crossings_by_the_words(line):
    row = pieces(line)
    told = []
    for i, j in combinations(range(len(row)), 2):
        what = common_by_shares(row[i], row[j])
        follows = (i, j) if j == i + 1 else (j, i) if line[0] and (i, j) == (0, len(row) - 1) else None
        if what is None:
            continue
        if follows is not None and what == ("at", row[follows[0]][1]) == ("at", row[follows[1]][0]):
            continue
        told.append((i, j, what))
    return told


class TestCrossings(unittest.TestCase):
    def check(self, line, wanted):
        self.assertIs(is_line(line), True)
        told = crossings(line)
        self.assertIs(type(told), list)
        self.assertEqual(told, wanted)
        self.assertEqual(crossings_by_the_words(line), wanted)

    def test_none(self):
        for line in (
            (False, places((0, 0), (1, 0))),
            (False, places((0, 0), (1, 0), (1, 1))),
            (True, places((0, 0), (1, 0), (1, 1))),
            (True, places((0, 0), (1, 0), (1, 1), (0, 1))),
        ):
            self.check(line, [])

    def test_crossing(self):
        self.check((False, places((0, 0), (4, 4), (4, 0), (0, 4))), [(0, 2, ("at", (2, 2, 1)))])
        self.check((True, places((0, 0), (4, 4), (4, 0), (0, 4))), [(0, 2, ("at", (2, 2, 1)))])

    def test_back_to_the_first_place(self):
        row = places((0, 0), (3, 0), (0, 4), (0, 0))
        self.check((False, row), [(0, 2, ("at", (0, 0, 1)))])
        self.check((True, row[:3]), [])
        # Open, the last piece is not next to the first one.
        self.check((False, places((0, 0), (4, 0), (4, 4), (0, 4), (0, 0))), [(0, 3, ("at", (0, 0, 1)))])
        self.check((True, places((0, 0), (4, 0), (4, 4), (0, 4))), [])

    def test_straight_back(self):
        self.check((False, places((0, 0), (10, 0), (4, 0))), [(0, 1, ("along", (4, 0, 1), (10, 0, 1)))])
        self.check((False, places((0, 0), (10, 0), (0, 0))), [(0, 1, ("along", (0, 0, 1), (10, 0, 1)))])
        self.check((False, places((0, 0), (3, 0), (-1, 0), (2, 0))), [
            (0, 1, ("along", (0, 0, 1), (3, 0, 1))),
            (0, 2, ("along", (0, 0, 1), (2, 0, 1))),
            (1, 2, ("along", (-1, 0, 1), (2, 0, 1))),
        ])
        self.check((True, places((0, 0), (5, 0), (0, 0), (0, 5))), [
            (0, 1, ("along", (0, 0, 1), (5, 0, 1))),
            (0, 2, ("at", (0, 0, 1))),
            (1, 3, ("at", (0, 0, 1))),
            (2, 3, ("along", (0, 0, 1), (0, 5, 1))),
        ])
        # Of a closed one over its first place.
        self.check((True, places((0, 0), (4, 0), (4, 3), (6, 3), (6, 0))), [
            (0, 4, ("along", (0, 0, 1), (4, 0, 1))), (1, 4, ("at", (4, 0, 1))),
        ])

    def test_a_place_twice(self):
        row = places((0, 0), (2, 0), (2, 2), (4, 2), (2, 0), (2, -2))
        self.check((False, row), [
            (0, 3, ("at", (2, 0, 1))), (0, 4, ("at", (2, 0, 1))), (1, 3, ("at", (2, 0, 1))), (1, 4, ("at", (2, 0, 1))),
        ])

    def test_touching(self):
        self.check((False, places((0, 0), (6, 0), (6, 4), (3, 0))), [(0, 2, ("at", (3, 0, 1)))])
        self.check((False, places((3, 0), (3, 3), (0, 3), (0, 0), (6, 0))), [(0, 3, ("at", (3, 0, 1)))])

    def test_lines_that_are_not_exact(self):
        self.check((False, places((0, 0), (2, 1), (2, 0), (0, 1))), [(0, 2, ("at", (2, 1, 2)))])

    def test_by_the_words(self):
        many = 0
        for line in LINES:
            told = crossings(line)
            self.assertEqual(told, crossings_by_the_words(line))
            self.assertTrue(all(type(found) is tuple for found in told))
            self.assertEqual([found[:2] for found in told], sorted(found[:2] for found in told))
            many += len(told)
        self.assertGreater(many, 150)

    def test_the_list_is_the_askers_own(self):
        line = (False, places((0, 0), (4, 4), (4, 0), (0, 4)))
        crossings(line).clear()
        self.assertEqual(len(crossings(line)), 1)


if __name__ == "__main__":
    unittest.main()
