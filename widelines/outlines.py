"""The outline of shapes: its bare parts, and the rings that go along them."""

from widelines.places import is_lesser, turn
from widelines.straights import crossing, edges, goes_on, in_order, neighbours, ordered_rings
from widelines.straights import row_goes_ahead, side_of, span, straight


def bare_parts(shapes):
    told = {}
    for shape in shapes:
        for a, b in edges(shape):
            for part in bare_parts_of_edge(a, b, shapes):
                told[part] = True
    return in_order(list(told), row_goes_ahead)


def bare_parts_of_edge(a, b, shapes):
    ends = span(a, b)
    line = straight(a, b)
    splits = {a: True, b: True}
    covers = []
    for shape in shapes:
        sides = [side_of(line, corner) for corner in shape]
        met = places_on(line, shape, sides)
        for one in met:
            if is_lesser(ends[0], one) and is_lesser(one, ends[1]):
                splits[one] = True
        # An area to whose edges a straight line comes twice lies along it between both. It hides
        # the edge there where some of it is to the right: the edge goes through it, or one of its
        # own edges lies there the other way about.
        if len(met) == 2 and -1 in sides:
            covers.append(span(met[0], met[1]))
    parts = neighbours(in_order(list(splits), is_lesser), False)
    bare = [part for part in parts if not is_covered(part, covers)]
    if ends[0] == a:
        return bare
    return [(end, begin) for begin, end in bare]


def places_on(line, shape, sides):
    # No more than two, as a shape is convex.
    met = []
    for k, side in enumerate(sides):
        if side == 0:
            met.append(shape[k])
        elif side + sides[k - 1] == 0:
            met.append(crossing(line, straight(shape[k - 1], shape[k])))
    return met


def is_covered(part, covers):
    # Parts end where covers do: none is covered by halves.
    for low, high in covers:
        if not is_lesser(part[0], low) and not is_lesser(high, part[1]):
            return True
    return False


def outline(shapes):
    parts = bare_parts(shapes)
    ends = ends_by_begin(parts)
    gone = {}
    rings = []
    for part in parts:
        if part not in gone:
            row = gone_along(part, ends, gone)
            rings.append(without_straight_places(row))
    return ordered_rings(rings)


def ends_by_begin(parts):
    told = {}
    for begin, end in parts:
        told.setdefault(begin, []).append(end)
    return told


def gone_along(first, ends, gone):
    # Behind each part goes just one, and ahead of each, too: so the way comes back to the first.
    row = []
    part = first
    while part not in gone:
        gone[part] = True
        row.append(part[0])
        part = (part[1], most_left(part, ends[part[1]]))
    return row


def most_left(part, ends):
    best = ends[0]
    for end in ends[1:]:
        if is_met_first(part, end, best):
            best = end
    return best


def is_met_first(part, end, other):
    # The way back along the part is turned to the right: it goes over what lies to its right,
    # then comes to what goes straight on, then goes over what lies to its left.
    side = turn(part[1], part[0], end)
    other_side = turn(part[1], part[0], other)
    if side != other_side:
        return side < other_side
    return turn(part[1], end, other) == -1


def without_straight_places(row):
    kept = []
    for k, one in enumerate(row):
        after = row[(k + 1) % len(row)]
        if not goes_on(row[k - 1], one, after):
            kept.append(one)
    return tuple(kept)
