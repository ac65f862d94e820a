"""Papers that show whether two areas meet: ("meet", place) or ("apart", rows)."""

from widelines.errors import NoPaper
from widelines.places import is_place
from widelines.shapes import clipped, in_area, is_edge_number, parting_edge, parts_off
from widelines.straights import edges


def lets_two(shapes, others, thing):
    if not is_so_formed(thing):
        raise NoPaper("shape", 0)
    if thing[0] == "meet":
        return lets_meet(shapes, others, thing[1])
    return lets_apart(shapes, others, thing[1])


def is_so_formed(thing):
    if not isinstance(thing, tuple) or len(thing) != 2:
        return False
    if thing[0] == "meet":
        return is_place(thing[1])
    return thing[0] == "apart" and isinstance(thing[1], tuple)


def lets_meet(shapes, others, one):
    if not in_area(shapes, one) or not in_area(others, one):
        raise NoPaper("place", 0)
    return True


def lets_apart(shapes, others, rows):
    if len(rows) != len(shapes):
        raise NoPaper("rows", 0)
    for k, row in enumerate(rows):
        if not isinstance(row, tuple) or len(row) != len(others):
            raise NoPaper("rows", k)
        for thing, other in zip(row, others):
            if not is_parting(shapes[k], other, thing):
                raise NoPaper("pair", k)
    return True


def is_parting(shape, other, thing):
    if not isinstance(thing, tuple) or len(thing) != 2:
        return False
    if thing[0] == "one":
        return is_edge_number(shape, thing[1]) and parts_off(shape, thing[1], other)
    if thing[0] == "other":
        return is_edge_number(other, thing[1]) and parts_off(other, thing[1], shape)
    return False


def two_paper(shapes, others):
    rows = []
    for shape in shapes:
        row = []
        for other in others:
            pair = parting_pair(shape, other)
            if pair is None:
                return ("meet", common_place(shape, other))
            row.append(pair)
        rows.append(tuple(row))
    return ("apart", tuple(rows))


def parting_pair(shape, other):
    number = parting_edge(shape, other)
    if number is not None:
        return ("one", number)
    number = parting_edge(other, shape)
    if number is not None:
        return ("other", number)
    return None


def common_place(shape, other):
    kept = list(shape)
    for a, b in edges(other):
        kept = clipped(kept, a, b)
    return kept[0]
