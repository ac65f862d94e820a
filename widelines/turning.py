"""Rings: how often they go round a place, and the sum of their areas."""

from widelines.numbers import fraction, plus
from widelines.places import is_lesser, is_place, turn
from widelines.straights import edges, span


def are_rings(thing):
    return isinstance(thing, tuple) and all([is_ring(one) for one in thing])


def is_ring(thing):
    if not isinstance(thing, tuple) or len(thing) < 3:
        return False
    if not all([is_place(one) for one in thing]):
        return False
    return all([a != b for a, b in edges(thing)])


def turning(rings, one):
    told = 0
    for ring in rings:
        for a, b in edges(ring):
            passed = passing(a, b, one)
            if passed is None:
                return None
            told = told + passed
    return told


def passing(a, b, one):
    # Looked at is the ray that goes up from the place. One that leans to the side by next to nothing
    # passes through no end of an edge: so ends are to one side of it as they are lesser or not.
    ends = span(a, b)
    if is_lesser(one, ends[0]) or is_lesser(ends[1], one):
        return 0
    side = turn(a, b, one)
    if side == 0:
        return None
    wanted = -1 if ends[0] == a else 1
    return side if side == wanted else 0


def ring_sum(rings):
    told = (0, 1)
    for ring in rings:
        for a, b in edges(ring):
            told = plus(told, share(a, b))
    return told


def share(a, b):
    # The area of the triangle of both and the place (0, 0, 1), with its sign.
    return fraction(a[0] * b[1] - a[1] * b[0], 2 * a[2] * b[2])
