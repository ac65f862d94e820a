"""The checker of outlines: whether rings go along all bare parts of shapes, once, and along nothing else.

Spans, (low, high) of each piece, are kept by the straight line along which the pieces go and the
direction in which they do.
"""

from widelines.errors import NoOutline
from widelines.numbers import divisor
from widelines.outlines import bare_parts
from widelines.places import is_lesser
from widelines.straights import edges, in_order, row_goes_ahead, span, straight
from widelines.turning import are_rings


def lets_outline(shapes, thing):
    if not are_rings(thing):
        raise NoOutline("shape", 0)
    parts = bare_parts(shapes)
    refuse_other_edges(parts, thing)
    refuse_twice(thing)
    refuse_lack(parts, thing)
    return True


def refuse_other_edges(parts, rings):
    spans = spans_by_line(parts)
    for number, ring in enumerate(rings):
        for a, b in edges(ring):
            if not is_made_of(a, b, spans):
                raise NoOutline("edge", number)


def refuse_twice(rings):
    # What lies along a bare part the other way about was refused ahead of this.
    spans = {}
    for number, ring in enumerate(rings):
        for a, b in edges(ring):
            ahead = spans.setdefault(line_of(a, b), [])
            one = span(a, b)
            if any([lie_along(one, other) for other in ahead]):
                raise NoOutline("twice", number)
            ahead.append(one)


def refuse_lack(parts, rings):
    gone = []
    for ring in rings:
        gone.extend(edges(ring))
    spans = spans_by_line(gone)
    for number, part in enumerate(parts):
        if not is_made_of(part[0], part[1], spans):
            raise NoOutline("lack", number)


def line_of(a, b):
    # Divided by what divides all three it is the same for all pieces that go along this line in
    # this direction, and the contrary for those that go the other way about.
    line = straight(a, b)
    shared = divisor(line)
    return tuple([part // shared for part in line])


def spans_by_line(some):
    spans = {}
    for a, b in some:
        spans.setdefault(line_of(a, b), []).append(span(a, b))
    for line in list(spans):
        spans[line] = in_order(spans[line], row_goes_ahead)
    return spans


def is_made_of(a, b, spans):
    one = span(a, b)
    reached = one[0]
    for low, high in spans.get(line_of(a, b), []):
        if not is_lesser(reached, low) and is_lesser(reached, high):
            reached = high
    return not is_lesser(reached, one[1])


def lie_along(one, other):
    return is_lesser(one[0], other[1]) and is_lesser(other[0], one[1])
