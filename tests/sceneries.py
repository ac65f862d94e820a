"""Shapes that several tests hand in: that cross, touch, lie in one another, have holes."""

from random import Random

from measure import at, places
from widelines.shapes import shape_of
from widelines.widening import widened


def box(x, y, right, top):
    return places((x, y), (right, y), (right, top), (x, top))


def frame(x, y, size):
    """A square of the size three times the given one, with a square hole of that size in its midst."""
    return (
        box(x, y, x + 3 * size, y + size),
        box(x, y + 2 * size, x + 3 * size, y + 3 * size),
        box(x, y, x + size, y + 3 * size),
        box(x + 2 * size, y, x + 3 * size, y + 3 * size),
    )


SQUARE = box(0, 0, 2, 2)
TRIANGLE = places((0, 0), (4, 0), (0, 4))

SCENERIES = {
    "none": (),
    "one": (SQUARE,),
    "the same twice": (SQUARE, SQUARE),
    "apart": (SQUARE, box(5, 5, 6, 6)),
    "that cross": (box(0, 0, 4, 2), box(1, -1, 2, 3)),
    "at a corner": (box(0, 0, 4, 4), box(3, 3, 6, 6)),
    "that touch in a corner": (SQUARE, box(2, 2, 4, 4)),
    "corner on an edge, from outside": (box(0, 0, 4, 2), places((1, 4), (2, 2), (3, 4))),
    "corner on an edge, from within": (box(0, 0, 4, 4), places((1, 2), (2, 0), (3, 2))),
    "along an edge, side by side": (SQUARE, box(2, 0, 4, 2)),
    "along part of an edge, side by side": (box(0, 0, 2, 4), box(2, 1, 4, 3)),
    "along an edge, beyond it": (SQUARE, box(2, 1, 4, 5)),
    "along an edge, from within": (box(0, 0, 4, 4), box(0, 1, 2, 3)),
    "along an edge, over it": (box(0, 0, 4, 2), box(3, 0, 6, 1)),
    "one within another": (box(0, 0, 6, 6), box(2, 2, 4, 4)),
    "one within, at two edges": (box(0, 0, 6, 6), box(0, 0, 4, 4)),
    "a hole": frame(0, 0, 1),
    "a hole in a hole": frame(0, 0, 3) + frame(3, 3, 1),
    "an island in a hole": frame(0, 0, 3) + (box(4, 4, 5, 5),),
    "an island that touches": frame(0, 0, 2) + (places((2, 3), (3, 2), (4, 3), (3, 4)),),
    "a hole at the least place": (
        places((0, 0), (6, -6), (6, -3)), places((0, 0), (6, 3), (6, 6)), box(5, -3, 6, 3),
    ),
    "four that touch in one place": (
        places((0, 0), (2, 1), (2, 2)), places((-2, -2), (0, 0), (-2, -1)),
        places((-1, 2), (0, 0), (0, 3)), places((0, -3), (1, -3), (0, 0)),
    ),
    "a star": (places((-3, -2), (3, -2), (0, 4)), places((-3, 2), (0, -4), (3, 2))),
    "a fan along one line": (box(0, 0, 1, 1), box(1, 0, 2, 1), box(2, 0, 3, 1), box(1, 0, 3, 2), box(2, -1, 3, 0)),
}

LINES = (
    (False, places((0, 0), (10, 0), (10, 10))),
    (False, places((0, 0), (8, 6), (8, 0), (0, 0))),
    (False, places((0, 0), (12, 5), (0, 10), (12, 15), (24, 10), (12, 5), (12, 0))),
    (True, places((0, 0), (12, 0), (12, 9))),
    (True, places((0, 0), (0, 8), (6, 0))),
    (True, places((0, 0), (5, 0), (0, 0), (0, 5))),
)
WIDE = tuple(
    widened(line, (half, side, ending, joining, (2, 1)))
    for line in LINES
    for half in ((1, 1), (5, 2))
    for side, ending, joining in (
        ("both", "cut", "pointed"), ("left", "round", "round"), ("right", "square", "cut"), ("both", "round", "round")
    )
)


def by_chance(seed, many, size, most):
    """Shapes on a small grid, so that many corners and edges fall together."""
    chance = Random(seed)
    told = []
    while len(told) < many:
        shapes = []
        for count in range(chance.randint(1, most)):
            some = [at(chance.randint(0, size), chance.randint(0, size)) for k in range(chance.randint(3, 6))]
            shapes.append(shape_of(some))
        told.append(tuple(shape for shape in shapes if shape is not None))
    return told
