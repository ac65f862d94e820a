"""What two pieces have in common, and where the pieces of a line cross, touch or lie along one another."""

from widelines.lines import pieces
from widelines.places import is_lesser
from widelines.straights import crossing, side_of, span, straight


def common(one, other):
    line = straight(one[0], one[1])
    other_line = straight(other[0], other[1])
    sides = [side_of(line, end) for end in other]
    if sides == [0, 0]:
        return common_along(span(one[0], one[1]), span(other[0], other[1]))
    other_sides = [side_of(other_line, end) for end in one]
    if sides[0] * sides[1] == 1 or other_sides[0] * other_sides[1] == 1:
        return None
    return ("at", crossing(line, other_line))


def common_along(one, other):
    low = other[0] if is_lesser(one[0], other[0]) else one[0]
    high = one[1] if is_lesser(one[1], other[1]) else other[1]
    if is_lesser(high, low):
        return None
    if low == high:
        return ("at", low)
    return ("along", low, high)


def crossings(line):
    row = pieces(line)
    told = []
    for i, one in enumerate(row):
        for j in range(i + 1, len(row)):
            what = common(one, row[j])
            if what is not None and not is_mere_joint(line, i, j, what):
                told.append((i, j, what))
    return told


def is_mere_joint(line, i, j, what):
    # Pieces next to one another meet where one ends and the other begins: one place alone is this one.
    is_next = j == i + 1 or (line[0] and i == 0 and j == len(line[1]) - 1)
    return is_next and what[0] == "at"
