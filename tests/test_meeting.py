"""Points 36 and 37: papers of two areas."""

import unittest
from fractions import Fraction
from itertools import product

from measure import at, in_shape, on_piece, places, spot, spread
from sceneries import LINES, SCENERIES, box, by_chance
from things import FRACTIONS, NO_NUMBERS, OTHER_THINGS, check_answers, check_refused, with_one_part_else
from widelines.errors import NoPaper
from widelines.meeting import lets_two, two_paper
from widelines.places import is_place
from widelines.widening import widened

SQUARE = box(0, 0, 2, 2)
FAR = box(5, 5, 6, 6)
TRIANGLE = places((3, 0), (6, 0), (3, 3))
ONE = (SQUARE, box(0, 4, 2, 6))
OTHER = (TRIANGLE, box(4, 4, 6, 6), box(-4, -4, -2, -2))
ROWS = (
    (("one", 1), ("one", 1), ("one", 0)),
    (("other", 2), ("other", 3), ("one", 0)),
)


class TwoCase(unittest.TestCase):
    def let_by(self, shapes, others, some):
        check_answers(self, lambda thing: lets_two(shapes, others, thing), some, True)

    def refused(self, shapes, others, some, word, number):
        check_refused(self, lambda thing: lets_two(shapes, others, thing), NoPaper, some, word, number)

    def word(self, shapes, others, thing):
        try:
            return lets_two(shapes, others, thing)
        except NoPaper as refusal:
            return refusal.word, refusal.at


class TestLetBy(TwoCase):
    def test_meet(self):
        one, other = (SQUARE,), (box(1, 1, 3, 3),)
        self.let_by(one, other, [("meet", at(x, y)) for x, y in product((1, Fraction(3, 2), 2), repeat=2)])
        self.let_by((FAR, SQUARE), other + (FAR,), [("meet", at(2, 2)), ("meet", at(5, 5)), ("meet", at(6, Fraction(11, 2)))])
        self.let_by((SQUARE,), (box(2, 2, 3, 3),), [("meet", at(2, 2))])
        self.let_by((SQUARE,), (box(2, 1, 3, 3),), [("meet", at(2, 1)), ("meet", at(2, 2)), ("meet", at(2, Fraction(4, 3)))])

    def test_apart(self):
        self.let_by(ONE, OTHER, [("apart", ROWS)])
        self.let_by((SQUARE,), (FAR,), [("apart", (((word, k),),)) for word, k in
                                        (("one", 1), ("one", 2), ("other", 0), ("other", 3))])

    def test_no_shapes(self):
        self.let_by((), (), [("apart", ())])
        self.let_by((), OTHER, [("apart", ())])
        self.let_by(ONE, (), [("apart", ((), ()))])

    def test_each_edge(self):
        for x, y in product(range(-3, 8), repeat=2):
            moved = places((x, y), (x + 3, y), (x, y + 3))
            for word, k in [("one", k) for k in range(4)] + [("other", k) for k in range(3)]:
                shape, corners = (SQUARE, moved) if word == "one" else (moved, SQUARE)
                a, b = spot(shape[k]), spot(shape[(k + 1) % len(shape)])
                parting = all(spread(a, b, spot(corner)) < 0 for corner in corners)
                wanted = True if parting else ("pair", 0)
                self.assertEqual(self.word((SQUARE,), (moved,), ("apart", (((word, k),),))), wanted)


class TestRefused(TwoCase):
    def test_shape(self):
        place = at(1, 1)
        some = [("meet",), ("meet", place, place), ["meet", place], ("meet", list(place)), ("meet", (2, 2, 2)), ("meet", (1, 1))]
        some += [("meet", (1, 1, True)), ("meet", (True, 1, 1)), ("meet", None), ("meet", ()), ("meet", (place,)), ("meet", 1)]
        some += [("meet", (1, 1, 0)), ("meet", (1, 1, -1)), ("meet", ROWS), ("apart", list(ROWS)), ("apart", None), ("apart",)]
        some += [("apart", 1), ("apart", "rows"), ("apart", ROWS, ROWS), ["apart", ROWS], (ROWS, "apart"), (place, "meet")]
        some += [("in", 0), ("out", (1, 2)), ("Meet", place), ("apart ", ROWS), ("", ROWS), (None, ROWS), (True, place)]
        some += [(("meet",), place), (["apart"], ROWS), ("apart", True), [("meet", place)], (("meet", place),), "meet", place]
        for one, other in ((ONE, OTHER), ((), ()), ((SQUARE,), (SQUARE,))):
            self.refused(one, other, some, "shape", 0)
            self.refused(one, other, OTHER_THINGS + FRACTIONS + NO_NUMBERS, "shape", 0)
            wrong = [thing for thing in NO_NUMBERS + OTHER_THINGS if not is_place(thing)]
            self.refused(one, other, [("meet", thing) for thing in wrong], "shape", 0)

    def test_place(self):
        for where in ((1, 1), (3, 0), (9, 9), (0, 5), (2 + Fraction(1, 10**30), 1)):
            self.refused(ONE, OTHER, [("meet", at(*where))], "place", 0)
        one, other = (SQUARE,), (box(1, 1, 3, 3),)
        little = Fraction(1, 10**30)
        for where in ((0, 0), (3, 3), (1 - little, 1), (1, 1 - little), (2 + little, 2), (2, 2 + little)):
            self.refused(one, other, [("meet", at(*where))], "place", 0)
        self.refused((), other, [("meet", at(2, 2))], "place", 0)
        self.refused(one, (), [("meet", at(2, 2))], "place", 0)
        self.refused((), (), [("meet", at(2, 2))], "place", 0)

    def test_not_as_many_rows(self):
        some = [("apart", ()), ("apart", ROWS[:1]), ("apart", ROWS + ROWS[:1]), ("apart", (None,)), ("apart", (None,) * 3)]
        self.refused(ONE, OTHER, some, "rows", 0)
        self.refused((), OTHER, [("apart", ((),)), ("apart", ROWS)], "rows", 0)
        self.refused(ONE, (), [("apart", ()), ("apart", ((),)), ("apart", ((), (), ()))], "rows", 0)

    def test_rows(self):
        good, last = ROWS
        for wrong in ((), good[:2], good + good[:1], list(good), None, True, 0, "rows", ((),), ("one", 1)):
            self.refused(ONE, OTHER, [("apart", (wrong, last)), ("apart", (wrong, wrong)), ("apart", (wrong, None))], "rows", 0)
            self.refused(ONE, OTHER, [("apart", (good, wrong))], "rows", 1)
        self.refused(ONE, (), [("apart", (((),), ())), ("apart", (None, ()))], "rows", 0)
        self.refused(ONE, (), [("apart", ((), [])), ("apart", ((), (("one", 0),)))], "rows", 1)

    def test_pairs(self):
        good, last = ROWS
        wrong = [None, True, 1, "one", (), ("one",), ("one", 1, 1), ["one", 1], ("one", True), ("one", False), ("one", None)]
        wrong += [("one", -1), ("one", 4), ("one", -3), ("one", "1"), ("one", (1,)), ("One", 1), (1, "one"), ("two", 1)]
        wrong += [("other", -1), ("other", 3), ("other", 10**39), ("other", True), ("other", [1]), (("one",), 1), (True, 1)]
        for thing in wrong:
            self.refused(ONE, OTHER, [("apart", ((thing,) + good[1:], last))], "pair", 0)
            self.refused(ONE, OTHER, [("apart", (good, (thing,) + last[1:]))], "pair", 1)
        for k in range(3):
            for thing in (None, ("one", 9), ("one", 3) if k < 2 else ("one", 1), ("other", 9)):
                row = good[:k] + (thing,) + good[k + 1:]
                self.refused(ONE, OTHER, [("apart", (row, last))], "pair", 0)

    def test_edges_that_do_not_part(self):
        good, last = ROWS
        for k in (0, 2, 3):
            self.refused(ONE, OTHER, [("apart", ((("one", k),) + good[1:], last))], "pair", 0)
        for k in (0, 1):
            self.refused(ONE, OTHER, [("apart", (good, (("other", k),) + last[1:]))], "pair", 1)
        # Touching corners lie on the edge, not to its right.
        every = [("apart", (((word, k),),)) for word in ("one", "other") for k in range(4)]
        for other in (box(2, 2, 3, 3), box(2, 0, 4, 2), box(1, 2, 5, 3), SQUARE, box(1, 1, 5, 5)):
            self.refused((SQUARE,), (other,), every, "pair", 0)

    def test_which_goes_ahead(self):
        good, last = ROWS
        bad_pair = (None,) + good[1:]
        self.refused(ONE, OTHER, [("apart", (bad_pair, None)), ("apart", (bad_pair, bad_pair))], "pair", 0)
        self.refused(ONE, OTHER, [("apart", (good[:2], bad_pair)), ("apart", ((None,), last))], "rows", 0)
        self.refused(ONE, OTHER, [("apart", (bad_pair,)), ("apart", (bad_pair, last, last))], "rows", 0)
        self.refused(ONE, OTHER, [("apart", (good, (None, None)))], "rows", 1)


def have_common(shape, other):
    """Whether two convex areas meet: a corner of one is in the other, or edges meet."""
    if any(in_shape(other, spot(one)) for one in shape) or any(in_shape(shape, spot(one)) for one in other):
        return True
    rows = [[spot(one) for one in some] for some in (shape, other)]
    for a, b in zip(rows[0], rows[0][1:] + rows[0][:1]):
        for c, d in zip(rows[1], rows[1][1:] + rows[1][:1]):
            if spread(a, b, c) * spread(a, b, d) < 0 and spread(c, d, a) * spread(c, d, b) < 0:
                return True
            if on_piece(a, b, c) or on_piece(a, b, d) or on_piece(c, d, a) or on_piece(c, d, b):
                return True
    return False


class TestTold(TwoCase):
    def check(self, shapes, others):
        paper = two_paper(shapes, others)
        self.assertIs(type(paper), tuple)
        self.assertEqual(len(paper), 2)
        meet = any(have_common(shape, other) for shape in shapes for other in others)
        self.assertEqual(paper[0], "meet" if meet else "apart", (shapes, others))
        self.let_by(shapes, others, [paper])
        if meet:
            self.assertIs(is_place(paper[1]), True)
        return paper[0]

    def test_no_shapes(self):
        self.assertEqual(two_paper((), ()), ("apart", ()))
        self.assertEqual(two_paper((), OTHER), ("apart", ()))
        self.assertEqual(two_paper(ONE, ()), ("apart", ((), ())))

    def test_by_hand(self):
        for other, meet in (
            (box(1, 1, 3, 3), True),
            (box(2, 2, 3, 3), True),
            (box(2, 0, 3, 2), True),
            (box(2, 1, 3, 5), True),
            (box(1, 2, 5, 5), True),
            (places((1, 2), (2, 3), (1, 3)), True),
            (places((2, 1), (4, 0), (4, 2)), True),
            (box(-1, -1, 3, 3), True),
            (box(0, 0, 1, 1), True),
            (SQUARE, True),
            (box(-1, Fraction(1, 2), 3, 1), True),
            (places((-1, 2), (2, -1), (3, 3)), True),
            (places((2, 3), (3, 2), (3, 3)), False),
            (places((1, 3), (3, 1), (3, 3)), True),
            (places((1, 3), (3, 1 + Fraction(1, 10**30)), (3, 3)), False),
            (box(2 + Fraction(1, 10**30), 0, 5, 2), False),
            (FAR, False),
        ):
            self.assertEqual(self.check((SQUARE,), (other,)), "meet" if meet else "apart")
            self.assertEqual(self.check((other,), (SQUARE,)), "meet" if meet else "apart")
            self.assertEqual(self.check((FAR, other), (box(20, 20, 21, 21), SQUARE)), "meet" if meet else "apart")

    def test_a_touching_place_is_the_one(self):
        self.assertEqual(two_paper((SQUARE,), (box(2, 2, 3, 3),)), ("meet", at(2, 2)))
        self.assertEqual(two_paper((SQUARE,), (places((2, 1), (4, 0), (4, 2)),)), ("meet", at(2, 1)))
        self.assertEqual(two_paper((places((2, 1), (4, 0), (4, 2)),), (SQUARE,)), ("meet", at(2, 1)))

    def test_by_chance(self):
        seen = []
        for one, other in zip(by_chance(36, 600, 5, 2), by_chance(37, 600, 5, 2)):
            seen.append(self.check(one, other))
            moved = tuple(tuple((x + 3, y + 2, d) for x, y, d in shape) for shape in other)
            seen.append(self.check(one, moved))
        self.assertGreater(seen.count("meet"), 50)
        self.assertGreater(seen.count("apart"), 50)

    def test_sceneries(self):
        some = list(SCENERIES.values())
        for one in some[::2]:
            for other in some[1::2]:
                moved = tuple(tuple((x + 5, y + 3, d) for x, y, d in shape) for shape in other)
                self.check(one, other)
                self.check(one, moved)

    def test_wide_lines(self):
        rule = ((1, 1), "both", "round", "pointed", (2, 1))
        for line in LINES:
            one = widened(line, rule)
            for far in (0, 3, 14, 26, 40):
                moved = (line[0], tuple((x + far, y + far, d) for x, y, d in line[1]))
                self.check(one, widened(moved, rule))

    def test_just_one_of_both(self):
        for x, y in product(range(-3, 6), repeat=2):
            other = places((x, y), (x + 2, y), (x, y + 3))
            meets = [self.word((SQUARE,), (other,), ("meet", at(Fraction(i, 2), Fraction(j, 2)))) is True
                     for i in range(-2, 7) for j in range(-2, 7)]
            parts = [self.word((SQUARE,), (other,), ("apart", (((word, k),),))) is True
                     for word in ("one", "other") for k in range(4)]
            self.assertNotEqual(any(meets), any(parts))


if __name__ == "__main__":
    unittest.main()
