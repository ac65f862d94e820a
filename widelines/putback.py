"""Plain lines, whose outline goes along their right side and back along their left one, put back from it."""

from widelines.lines import is_exact, is_line, pieces
from widelines.outlines import outline
from widelines.straights import begun_anywhere, between, neighbours
from widelines.widening import bend_of, outer_corner, stroke, tip_at, widened

# As in widening, 1 is the side that lies outside where a line goes left: the right one.
RIGHT = 1
LEFT = -1


def is_plain(line, rule):
    if line[0] or not is_for_plain_lines(rule):
        return False
    row = way_round(line, rule[0])
    if row is None:
        return False
    rings = outline(widened(line, rule))
    return len(rings) == 1 and rings[0] in begun_anywhere(row)


def is_for_plain_lines(rule):
    return rule[1:4] == ("both", "cut", "pointed")


def way_round(line, half):
    strokes = [stroke(a, b, half) for a, b in pieces(line)]
    for one, other in neighbours(strokes, False):
        if bend_of(one, other) == 0:
            return None
    return tuple(along_side(strokes, RIGHT) + list(reversed(along_side(strokes, LEFT))))


def along_side(strokes, side):
    first = strokes[0]
    last = strokes[-1]
    told = [outer_corner(first[0], first, side)]
    for one, other in neighbours(strokes, False):
        told.append(tip_at(one, other, side))
    told.append(outer_corner(last[1], last, side))
    return told


def put_back(rings, rule):
    if not is_for_plain_lines(rule) or len(rings) != 1:
        return None
    for row in begun_anywhere(rings[0]):
        line = line_amid(row)
        if is_line(line) and is_exact(line) and way_round(line, rule[0]) == row:
            if outline(widened(line, rule)) == rings:
                return line
    return None


def line_amid(row):
    # The right and the left place of a place lie alike far from it, opposite one another.
    many = len(row) // 2
    opposite = list(reversed(row))[:many]
    return (False, tuple([between(right, left, (1, 2)) for right, left in zip(row[:many], opposite)]))
