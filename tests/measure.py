"""Another way to the same answers, by Python's own Fraction, for the tests to measure with."""

from fractions import Fraction
from math import isqrt, lcm


def spot(one):
    return Fraction(one[0], one[2]), Fraction(one[1], one[2])


def at(x, y):
    """The place with the coordinates x and y, whole numbers or Fractions."""
    x, y = Fraction(x), Fraction(y)
    bottom = lcm(x.denominator, y.denominator)
    return int(x * bottom), int(y * bottom), bottom


def places(*some):
    """Places of pairs of coordinates."""
    return tuple(at(x, y) for x, y in some)


def pair(number):
    """The fraction of the package that a Fraction is."""
    number = Fraction(number)
    return number.numerator, number.denominator


def spread(a, b, c):
    """Above nought where c is to the left of the straight line from a to b; all are pairs of Fractions."""
    return (b[0] - a[0]) * (c[1] - a[1]) - (b[1] - a[1]) * (c[0] - a[0])


def hull(spots):
    """The corners of the least convex area, the least one first, or None; by going round, not by sorting."""
    begin, last = min(spots), max(spots)
    if all(spread(begin, last, one) == 0 for one in spots):
        return None
    row = [begin]
    while True:
        best = None
        for one in spots:
            if one != row[-1] and (best is None or is_more_outward(row[-1], best, one)):
                best = one
        if best == begin:
            return tuple(row)
        row.append(best)


def is_more_outward(here, best, one):
    side = spread(here, best, one)
    return side < 0 or (side == 0 and on_piece(here, one, best))


def on_piece(a, b, c):
    return spread(a, b, c) == 0 and min(a, b) <= c <= max(a, b)


def hull_shape(spots):
    corners = hull(spots)
    return None if corners is None else tuple(at(*corner) for corner in corners)


def area(ring):
    """The area of a row of places or of pairs of Fractions, to the left above nought."""
    spots = [spot(one) if len(one) == 3 else one for one in ring]
    return sum((a[0] * b[1] - a[1] * b[0] for a, b in zip(spots, spots[1:] + spots[:1])), Fraction(0)) / 2


def in_shape(shape, where):
    spots = [spot(one) for one in shape]
    return all(spread(a, b, where) >= 0 for a, b in zip(spots, spots[1:] + spots[:1]))


def within_shape(shape, where):
    spots = [spot(one) for one in shape]
    return all(spread(a, b, where) > 0 for a, b in zip(spots, spots[1:] + spots[:1]))


def midst(one, other):
    (ax, ay), (bx, by) = spot(one), spot(other)
    return (ax + bx) / 2, (ay + by) / 2


def added(p, w, share=1):
    return p[0] + share * w[0], p[1] + share * w[1]


def quarter(w):
    return -w[1], w[0]


def distance(a, b):
    """The distance of two pairs of Fractions between which it is one, too."""
    square = (b[0] - a[0]) ** 2 + (b[1] - a[1]) ** 2
    length = Fraction(isqrt(square.numerator), isqrt(square.denominator))
    assert length * length == square
    return length


def direction(a, b):
    length = distance(a, b)
    return (b[0] - a[0]) / length, (b[1] - a[1]) / length
