"""Exact lines that several tests hand in: by hand and by chance, open and closed."""

from fractions import Fraction
from random import Random

from measure import added, at, places
from widelines.lines import is_exact, is_line

GREAT = 10**29

STRAIGHT = (False, places((0, 0), (10, 0)))
LEFT_TURN = (False, places((0, 0), (10, 0), (10, 10)))
STRAIGHT_BACK = (False, places((0, 0), (10, 0), (4, 0)))
NINE = (False, places(*[(4 * k, 3 * (k % 2)) for k in range(9)]))

OPEN = (
    STRAIGHT,
    LEFT_TURN,
    STRAIGHT_BACK,
    NINE,
    (False, places((0, 0), (3, 4))),
    (False, places((0, 0), (3, 4), (6, 0), (6, 5), (-6, 0), (6, 0), (0, 0))),
    (False, places((0, 0), (8, 6), (8, 0), (0, 0))),
    (False, places((0, 0), (5, 0), (5, 5), (2, 5), (2, -5))),
    (False, places((0, 0), (3, 0), (-1, 0), (2, 0))),
    (False, ((1, 1, 2), (3, 1, 2), (9, 9, 2), (-1, 9, 2))),
    (False, ((1, 1, 3), (14, 17, 15), (14, -3, 15))),
    (False, ((0, 0, 1), (3 * GREAT, 4 * GREAT, 7), (3 * GREAT, -GREAT, 7))),
)
CLOSED = (
    (True, places((0, 0), (3, 0), (0, 4))),
    (True, places((0, 0), (0, 4), (3, 0))),
    (True, places((0, 0), (12, 0), (12, 12), (0, 12))),
    (True, places((3, 4), (3, 0), (7, 3), (7, 4))),
    (True, places((0, 0), (4, 3), (0, 6), (4, 9), (8, 6), (4, 3), (8, 0))),
    (True, places((0, 0), (5, 0), (0, 0), (0, 5))),
    (True, places((0, 0), (2, 0), (1, 0), (3, 0))),
    (True, places((0, 0), (9, 0), (9, 3), (6, 3), (6, 6), (9, 6), (9, 9), (0, 9))),
    (True, ((1, 1, 2), (7, 1, 2), (1, 9, 2))),
)
WAYS = tuple(
    (Fraction(x, size), Fraction(y, size))
    for a, b, size in ((1, 0, 1), (3, 4, 5), (5, 12, 13), (8, 15, 17))
    for x, y in ((a, b), (-b, a), (-a, -b), (b, -a), (b, a), (-a, b), (-b, -a), (a, -b))
)


def by_chance(seed, many, most=9, sizes=(1, 2, 3, 5, Fraction(1, 2), Fraction(7, 3))):
    """Open exact lines whose pieces go along few directions."""
    chance = Random(seed)
    told = []
    while len(told) < many:
        row = [(Fraction(chance.randint(-3, 3)), Fraction(chance.randint(-3, 3), chance.randint(1, 3)))]
        for count in range(chance.randint(1, most - 1)):
            row.append(added(row[-1], chance.choice(WAYS), chance.choice(sizes)))
        line = (False, places(*row))
        if is_line(line):
            told.append(line)
    return tuple(told)


def closed_by_chance(seed, many):
    """Closed exact lines whose pieces go along and athwart one direction, by turns."""
    chance = Random(seed)
    told = []
    while len(told) < many:
        turns = chance.randint(2, 4)
        xs = [chance.randint(0, 6) for k in range(turns)]
        ys = [chance.randint(0, 6) for k in range(turns)]
        row = [spot for k in range(turns) for spot in ((xs[k], ys[k - 1]), (xs[k], ys[k]))]
        u = chance.choice(WAYS)
        share = chance.choice((1, Fraction(2, 3), 5))
        spots = [(share * (x * u[0] - y * u[1]), share * (x * u[1] + y * u[0])) for x, y in row]
        line = (True, tuple(at(*spot) for spot in spots))
        if is_line(line) and is_exact(line):
            told.append(line)
    return tuple(told)
