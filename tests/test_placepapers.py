"""Point 24: papers of places."""

import unittest
from fractions import Fraction
from itertools import product

from measure import at, in_shape, places, spot, spread
from things import FRACTIONS, NO_NUMBERS, OTHER_THINGS, check_answers, check_refused
from widelines.errors import NoPaper
from widelines.placepapers import lets_place, place_paper
from widelines.shapes import shape_of, twelve
from widelines.widening import widened

SQUARE = places((0, 0), (2, 0), (2, 2), (0, 2))
TRIANGLE = places((4, 0), (8, 0), (4, 3))
TWO = (SQUARE, TRIANGLE)
WITHIN = at(1, 1)
OUTSIDE = at(3, 1)
FAR = at(10, 10)
WIDE = widened((False, places((0, 0), (8, 6), (8, 0), (0, 0))), ((1, 1), "both", "round", "pointed", (3, 1)))


class TestLetBy(unittest.TestCase):
    def let_by(self, shapes, one, some):
        check_answers(self, lambda thing: lets_place(shapes, one, thing), some, True)

    def test_in(self):
        self.let_by(TWO, WITHIN, [("in", 0)])
        self.let_by(TWO, at(5, 1), [("in", 1)])
        for one in SQUARE + places((1, 0), (2, 1), (0, Fraction(1, 10**30))):
            self.let_by(TWO, one, [("in", 0)])
        self.let_by((SQUARE, SQUARE, TRIANGLE), WITHIN, [("in", 0), ("in", 1)])

    def test_out(self):
        self.let_by(TWO, OUTSIDE, [("out", (1, 2))])
        self.let_by(TWO, FAR, [("out", (1, 1)), ("out", (2, 1))])
        self.let_by((), WITHIN, [("out", ())])

    def test_each_edge(self):
        for x, y in product(range(-1, 10), range(-1, 5)):
            for k in range(4):
                for i in range(3):
                    shown = [spread(spot(TWO[n][j]), spot(TWO[n][(j + 1) % len(TWO[n])]), (x, y)) < 0
                             for n, j in ((0, k), (1, i))]
                    paper = ("out", (k, i))
                    if all(shown):
                        self.let_by(TWO, at(x, y), [paper])
                    else:
                        with self.assertRaises(NoPaper) as taken:
                            lets_place(TWO, at(x, y), paper)
                        self.assertEqual((taken.exception.word, taken.exception.at), ("place", shown.index(False)))


class TestRefused(unittest.TestCase):
    def refused(self, shapes, one, some, word, number):
        check_refused(self, lambda thing: lets_place(shapes, one, thing), NoPaper, some, word, number)

    def test_shape(self):
        some = [("in",), ("in", 0, 0), ("in", -1), ("in", True), ("in", False), ("in", None), ("in", "0"), ("in", (0,))]
        some += [("in", [0]), ("in", ()), ["in", 0], ("out", [1, 2]), ("out", 1), ("out", None), ("out", "12"), ("out",)]
        some += [["out", (1, 2)], ("out", (1, 2), 0), ("out", 1, 2), ("IN", 0), ("on", 0), ("in ", 0), ("", 0), (0, 0)]
        some += [(0, "in"), ((1, 2), "out"), (None, 0), (("in",), 0), (["in"], 0), ("in", -(10**39)), (("in", 0),)]
        some += [(True, (1, 2)), ("meet", 0), ("apart", (1, 2)), ("inout", 0), ("ou", (1, 2)), ("in", (1, 2)), ("out", True)]
        some += [("in", ("out", (1, 2))), "in", "out", [("in", 0)]]
        for shapes in (TWO, ()):
            for one in (WITHIN, OUTSIDE):
                self.refused(shapes, one, some, "shape", 0)
                self.refused(shapes, one, OTHER_THINGS + FRACTIONS + NO_NUMBERS, "shape", 0)

    def test_number_of_in(self):
        for one in (WITHIN, OUTSIDE):
            self.refused(TWO, one, [("in", 2), ("in", 3), ("in", 10**39)], "number", 0)
            self.refused((), one, [("in", 0), ("in", 1)], "number", 0)

    def test_place_of_in(self):
        self.refused(TWO, WITHIN, [("in", 1)], "place", 0)
        self.refused(TWO, OUTSIDE, [("in", 0), ("in", 1)], "place", 0)
        self.refused(TWO, at(2 + Fraction(1, 10**30), 1), [("in", 0), ("in", 1)], "place", 0)

    def test_not_as_many_edges(self):
        some = [("out", ()), ("out", (1,)), ("out", (1, 2, 1)), ("out", (None,)), ("out", (99, 99, 99)), ("out", ((1, 2),))]
        for one in (WITHIN, OUTSIDE):
            self.refused(TWO, one, some, "number", 0)
        self.refused((), OUTSIDE, [("out", (0,)), ("out", (None, 1))], "number", 0)

    def test_no_number_of_an_edge(self):
        for none in (-1, -4, 4, 10**39, True, False, None, "1", (1,), [1], ()):
            some = [("out", (none, 2)), ("out", (none, none)), ("out", (none, 0))]
            self.refused(TWO, OUTSIDE, some, "number", 0)
            self.refused(TWO, WITHIN, some, "number", 0)
        for none in (-1, 3, 4, True, False, None, "2", (2,), [2]):
            self.refused(TWO, OUTSIDE, [("out", (1, none))], "number", 1)

    def test_not_to_its_right(self):
        self.refused(TWO, OUTSIDE, [("out", (k, 2)) for k in (0, 2, 3)], "place", 0)
        self.refused(TWO, OUTSIDE, [("out", (1, k)) for k in (0, 1)], "place", 1)
        self.refused(TWO, WITHIN, [("out", (k, 2)) for k in range(4)], "place", 0)
        # On the straight line of an edge is not to its right.
        self.refused((SQUARE,), at(2, 1), [("out", (k,)) for k in range(4)], "place", 0)
        self.refused((SQUARE,), at(5, 0), [("out", (0,)), ("out", (2,)), ("out", (3,))], "place", 0)

    def test_which_goes_ahead(self):
        self.refused(TWO, OUTSIDE, [("out", (0, 9)), ("out", (0, None)), ("out", (0, 0))], "place", 0)
        self.refused(TWO, OUTSIDE, [("out", (9, 0)), ("out", (True, True))], "number", 0)
        self.refused(TWO, OUTSIDE, [("out", (0, 0, 0)), ("out", (9,))], "number", 0)
        three = TWO + (places((20, 20), (21, 20), (20, 21)),)
        self.refused(three, OUTSIDE, [("out", (1, 0, 9)), ("out", (1, 1, 1))], "place", 1)
        self.refused(three, OUTSIDE, [("out", (1, 9, 9)), ("out", (1, -1, 1))], "number", 1)
        self.refused(three, OUTSIDE, [("out", (1, 2, 1))], "place", 2)
        self.refused(three, OUTSIDE, [("out", (1, 2, 3))], "number", 2)


class TestTold(unittest.TestCase):
    def check(self, shapes, one):
        paper = place_paper(shapes, one)
        self.assertIs(type(paper), tuple)
        self.assertIs(lets_place(shapes, one, paper), True)
        belonging = any(in_shape(shape, spot(one)) for shape in shapes)
        self.assertEqual(paper[0], "in" if belonging else "out")
        if not belonging:
            self.assertIs(type(paper[1]), tuple)

    def test_no_shapes(self):
        self.assertEqual(place_paper((), WITHIN), ("out", ()))

    def test_within_on_edges_outside(self):
        for shapes in (TWO, TWO[::-1], (SQUARE,), (TRIANGLE, SQUARE, TRIANGLE), (twelve((1, 1, 2), (2, 1)),)):
            for x, y in product(range(-2, 20), range(-2, 10)):
                self.check(shapes, at(Fraction(x, 2), Fraction(y, 2)))

    def test_of_a_wide_line(self):
        for x, y in product(range(-3, 12), range(-3, 10)):
            self.check(WIDE, at(x, y))
        for shape in WIDE:
            for one in shape:
                self.check(WIDE, one)

    def test_just_beside(self):
        great = 10**29
        thin = shape_of([(0, 0, 1), (2 * great, 2, 1), (2 * great + 1, 2, 1)])
        for one in ((great, 1, 1), (great - 1, 1, 1), (great + 1, 1, 1), (2 * great + 1, 2, 2)):
            self.check((thin,), one)


if __name__ == "__main__":
    unittest.main()
