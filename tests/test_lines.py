"""Point 13 and the kinds LINE, PIECE, EXACT, RULE of point 3."""

import unittest

from measure import at, places
from things import FRACTIONS, NO_NUMBERS, OTHER_THINGS, check_answers, check_numbers, with_one_part_else
from widelines.lines import is_exact, is_line, is_rule, lengths, pieces

GREAT = 10**29

ZIGZAG = places((0, 0), (1, 1), (2, 0), (3, 1), (4, 0), (5, 1), (6, 0), (7, 1), (8, 0))
OCTAGON = places((0, 0), (2, 0), (3, 1), (3, 3), (2, 4), (0, 4), (-1, 3), (-1, 1))
TRIANGLE = places((0, 0), (3, 0), (0, 4))

LINES = (
    (False, places((0, 0), (1, 0))),
    (False, places((0, 0), (1, 1), (2, 0))),
    (False, ((1, 1, 2), (1, 2, 3))),
    (False, ZIGZAG),
    (True, TRIANGLE),
    (True, TRIANGLE[::-1]),
    (True, OCTAGON),
    # Straight back, once and again, and over the first place of a closed one.
    (False, places((0, 0), (3, 0), (1, 0))),
    (False, places((0, 0), (3, 0), (0, 0))),
    (False, places((0, 0), (3, 0), (-1, 0), (2, 0))),
    (True, places((0, 0), (2, 0), (1, 0), (3, 0))),
    (True, places((0, 0), (3, 0), (0, 0), (0, 3))),
    # The same place and the same piece again, crossings.
    (False, places((0, 0), (1, 0), (1, 1), (0, 0), (1, 0), (1, 1), (0, 0))),
    (False, places((0, 0), (2, 2), (2, 0), (0, 2))),
    (True, places((0, 0), (2, 2), (2, 0), (0, 2))),
    # An open line may end where it began and go on as it began.
    (False, places((0, 0), (2, 0), (1, 1), (-1, 0), (0, 0))),
    (False, ((GREAT, 1, 3), (-GREAT, 2, 7), (5, GREAT, GREAT - 1))),
    (False, ((0, 0, 1), (GREAT, 1, 1), (2 * GREAT + 1, 2, 1))),
)

GOING_ON = (
    (False, places((0, 0), (1, 0), (2, 0))),
    (False, places((0, 0), (0, -1), (0, -3))),
    (False, places((5, 5), (0, 0), (1, 2), (3, 6), (0, 0))),
    (False, places((9, 0), (3, 4), (3, 2), (3, -2))),
    (False, ((0, 0, 1), (1, 1, 3), (1, 1, 2))),
    (False, ((0, 0, 1), (GREAT, 1, 1), (2 * GREAT, 2, 1))),
    (False, places((0, 0), (3, 0), (1, 0), (-1, 0))),
    (True, places((0, 0), (2, 0), (4, 0), (0, 3))),
    # Of a closed one at its first place, and at its last one.
    (True, places((2, 0), (4, 0), (0, 3), (0, 0))),
    (True, places((4, 0), (0, 3), (0, 0), (2, 0))),
    (True, places((0, 0), (0, 3), (0, 0), (0, -3))),
    (True, places((0, 0), (2, 0), (1, 0))),
    (True, places((1, 0), (0, 0), (2, 0))),
    (True, places((0, 0), (1, 0), (2, 0))),
)

STANDING = (
    (False, places((0, 0), (0, 0))),
    (False, places((1, 2), (0, 0), (0, 0))),
    (False, places((0, 0), (0, 0), (1, 2))),
    (False, places((0, 0), (1, 0), (1, 0), (1, 1))),
    (True, places((0, 0), (0, 0), (0, 4))),
    (True, places((0, 0), (3, 0), (3, 0), (0, 4))),
    (True, places((0, 0), (3, 0), (0, 4), (0, 0))),
    (True, places((0, 0), (3, 0), (0, 0))),
)


class TestIsLine(unittest.TestCase):
    def test_lines(self):
        check_answers(self, is_line, LINES, True)

    def test_fewest_and_most(self):
        for many in range(12):
            row = tuple(at(k, k * k) for k in range(many))
            self.assertIs(is_line((False, row)), 2 <= many <= 9)
            self.assertIs(is_line((True, row)), 3 <= many <= 8)

    def test_alike_side_by_side(self):
        check_answers(self, is_line, STANDING, False)

    def test_going_on(self):
        check_answers(self, is_line, GOING_ON, False)

    def test_a_closed_one_begun_elsewhere(self):
        for line in LINES + GOING_ON + STANDING:
            if line[0]:
                for k in range(len(line[1])):
                    self.assertIs(is_line((True, line[1][k:] + line[1][:k])), line in LINES)

    def test_turned_about(self):
        for line in LINES + GOING_ON + STANDING:
            self.assertIs(is_line((line[0], line[1][::-1])), line in LINES)

    def test_closed_is_a_truth(self):
        for closed in (0, 1, None, "", "True", "open", (), [], (True,), [False], -1):
            check_answers(self, is_line, [(closed, row) for row in (TRIANGLE, OCTAGON, ZIGZAG)], False)

    def test_lists(self):
        for closed, row in LINES:
            some = [[closed, row], (closed, list(row)), [closed, list(row)], (closed, [list(one) for one in row])]
            some += [(closed, tuple(list(one) for one in row)), (closed, (list(row[0]),) + row[1:])]
            some += [(closed, row[:-1] + (list(row[-1]),)), [(closed, row)], ((closed, row),)]
            check_answers(self, is_line, some, False)

    def test_parts_too_few_or_too_many(self):
        for closed, row in LINES:
            some = [(closed,), (row,), (closed, row, row), (closed, row, None), (closed,) + row, row, (row, closed)]
            check_answers(self, is_line, some, False)

    def test_places_that_are_none(self):
        none = (None, True, 0, "0,0", (), (0, 0), (0, 0, 2), (2, 4, 6), (1, 1, 0), (1, 1, -1), (1, 1, 1, 1), [0, 1, 1])
        none += tuple((other, 0, 1) for other in NO_NUMBERS) + tuple((5, 7, other) for other in NO_NUMBERS)
        for line in ((False, places((5, 0), (0, 1))), (True, places((5, 0), (0, 1), (7, 3)))):
            for other in none:
                some = [(line[0], row) for row in with_one_part_else(line[1], other)]
                check_answers(self, is_line, some, False)

    def test_truths_are_no_numbers(self):
        some = [(False, ((0, 0, True), (1, 0, 1))), (False, ((0, 0, 1), (True, 0, 1))), (False, ((0, 0, 1), (1, False, 1)))]
        check_answers(self, is_line, some, False)

    def test_other_things(self):
        check_answers(self, is_line, OTHER_THINGS + FRACTIONS, False)
        for other in OTHER_THINGS:
            check_answers(self, is_line, [(False, other), (True, other), (other, other)], False)
            if not isinstance(other, bool):
                check_answers(self, is_line, [(other, TRIANGLE), (other, OCTAGON)], False)
        check_answers(self, is_line, [(closed, ((1, 2, 3),) * 4999) for closed in (True, False)], False)


RULES = tuple(
    (half, side, ending, joining, bound)
    for half in ((1, 1), (1, 2), (7, 3), (1, GREAT), (GREAT, 1))
    for side in ("both", "left", "right")
    for ending in ("cut", "square", "round")
    for joining in ("cut", "pointed", "round")
    for bound in ((1, 1), (5, 4), (GREAT + 1, GREAT), (GREAT, 1))
)
RULE = ((1, 1), "both", "cut", "pointed", (2, 1))


class TestIsRule(unittest.TestCase):
    def refused(self, number, some):
        check_answers(self, is_rule, [RULE[:number] + (part,) + RULE[number + 1:] for part in some], False)

    def test_rules(self):
        check_answers(self, is_rule, RULES, True)

    def test_half(self):
        self.refused(0, ((0, 1), (-1, 1), (-1, GREAT), (-GREAT, 7), (2, 2), (1, 0), (1, -1), (0, 2), (True, 1), (1, True)))
        self.refused(0, (1, 2, True, None, "1", (1,), (1, 1, 1), [1, 1], (), ((1, 1), 1)))

    def test_bound(self):
        self.refused(4, ((0, 1), (1, 2), (GREAT - 1, GREAT), (-1, 1), (-2, 1), (2, 2), (4, 2), (1, 0), (-1, -1)))
        self.refused(4, (1, 2, True, None, "1", (1,), (1, 1, 1), [1, 1], (), (True, 1), (1, True), (2, True)))

    def test_words(self):
        others = ("", "Both", "both ", "straight", None, True, 0, 1, (), [], ("both",), ["cut"], ("both", "cut"))
        self.refused(1, others + ("cut", "square", "round", "pointed", "up"))
        self.refused(2, others + ("pointed", "both", "left", "right"))
        self.refused(3, others + ("square", "both", "left", "right"))

    def test_lists_and_parts_too_few_or_too_many(self):
        for rule in RULES:
            some = [list(rule), rule[:-1], rule[1:], rule + (rule[4],), (rule,), [rule], rule[::-1]]
            some += [(list(rule[0]),) + rule[1:], rule[:4] + (list(rule[4]),)]
            check_answers(self, is_rule, some, False)

    def test_any_part_else(self):
        for other in NO_NUMBERS + OTHER_THINGS:
            if other != (1, 1):
                check_answers(self, is_rule, with_one_part_else(RULE, other), False)

    def test_other_things(self):
        check_answers(self, is_rule, OTHER_THINGS + FRACTIONS + LINES, False)


class TestPieces(unittest.TestCase):
    def test_by_hand(self):
        a, b, c = TRIANGLE
        self.assertEqual(pieces((False, (a, b))), ((a, b),))
        self.assertEqual(pieces((False, TRIANGLE)), ((a, b), (b, c)))
        self.assertEqual(pieces((True, TRIANGLE)), ((a, b), (b, c), (c, a)))

    def test_each_line(self):
        for closed, row in LINES:
            told = pieces((closed, row))
            self.assertIs(type(told), tuple)
            self.assertEqual(len(told), len(row) - 1 + closed)
            for k, piece in enumerate(told):
                self.assertIs(type(piece), tuple)
                self.assertEqual(piece, (row[k], row[(k + 1) % len(row)]))


class TestLengths(unittest.TestCase):
    def test_by_hand(self):
        for line, wanted in (
            ((False, places((0, 0), (3, 4))), ((5, 1),)),
            ((False, places((0, 0), (3, 4), (3, 3))), ((5, 1), (1, 1))),
            ((False, places((0, 0), (1, 1))), (None,)),
            ((True, TRIANGLE), ((3, 1), (5, 1), (4, 1))),
            ((True, places((0, 0), (3, 0), (0, 3))), ((3, 1), None, (3, 1))),
            ((False, places((0, 0), (1, 1), (1, 2), (0, 0))), (None, (1, 1), None)),
            ((False, ((0, 0, 1), (3, 4, 10))), ((1, 2),)),
            ((False, ((1, 1, 2), (5, 6, 3))), (None,)),
            ((False, ((1, 1, 2), (7, 11, 6))), (None,)),
            ((False, ((1, 0, 2), (13, 12, 10))), (None,)),
            ((False, ((1, 0, 2), (7, 8, 6))), (None,)),
            ((False, ((1, 0, 2), (21, 8, 6))), (None,)),
            ((False, ((1, 0, 2), (9, 8, 6))), ((5, 3),)),
            ((False, ((0, 0, 1), (3 * GREAT, 4 * GREAT, 7), (0, 0, 1))), ((5 * GREAT, 7),) * 2),
            ((False, ((0, 0, 1), (3 * GREAT, 4 * GREAT + 1, 1))), (None,)),
        ):
            told = lengths(line)
            self.assertIs(type(told), tuple)
            self.assertEqual(told, wanted)
            self.assertIs(is_exact(line), None not in wanted)
            for length in told:
                if length is not None:
                    check_numbers(self, length, 2)

    def test_one_that_is_none_is_enough(self):
        row = places((0, 0), (3, 4), (0, 8), (3, 12), (0, 16), (4, 19), (0, 22), (4, 25))
        self.assertIs(is_exact((False, row)), True)
        self.assertIs(is_exact((True, row)), False)
        self.assertIs(is_exact((False, row[:1] + places((1, 1)) + row[1:])), False)
        self.assertIs(is_exact((False, row + places((5, 27)))), False)
        self.assertIs(is_exact((False, places((1, 1)) + row)), False)


if __name__ == "__main__":
    unittest.main()
