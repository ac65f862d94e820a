"""Papers that show whether a place belongs to shapes: ("in", k) or ("out", edges)."""

from widelines.errors import NoPaper
from widelines.numbers import is_whole
from widelines.shapes import belongs, is_edge_number, parting_edge, parts_off


def lets_place(shapes, one, thing):
    if not is_so_formed(thing):
        raise NoPaper("shape", 0)
    if thing[0] == "in":
        return lets_in(shapes, one, thing[1])
    return lets_out(shapes, one, thing[1])


def is_so_formed(thing):
    if not isinstance(thing, tuple) or len(thing) != 2:
        return False
    if thing[0] == "in":
        return is_whole(thing[1]) and thing[1] >= 0
    return thing[0] == "out" and isinstance(thing[1], tuple)


def lets_in(shapes, one, number):
    if number >= len(shapes):
        raise NoPaper("number", 0)
    if not belongs(shapes[number], one):
        raise NoPaper("place", 0)
    return True


def lets_out(shapes, one, numbers):
    if len(numbers) != len(shapes):
        raise NoPaper("number", 0)
    for k, number in enumerate(numbers):
        if not is_edge_number(shapes[k], number):
            raise NoPaper("number", k)
        if not parts_off(shapes[k], number, (one,)):
            raise NoPaper("place", k)
    return True


def place_paper(shapes, one):
    for k, shape in enumerate(shapes):
        if belongs(shape, one):
            return ("in", k)
    return ("out", tuple([parting_edge(shape, (one,)) for shape in shapes]))
