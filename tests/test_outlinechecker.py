"""Points 32 and 33: outlines judged, whoever wrote them."""

import unittest
from fractions import Fraction
from random import Random

from measure import at, midst, places, spot
from sceneries import SCENERIES, WIDE, box, by_chance
from things import FRACTIONS, NO_NUMBERS, OTHER_THINGS, check_answers, check_refused, with_one_part_else
from widelines.errors import NoOutline
from widelines.outlinechecker import lets_outline
from widelines.outlines import bare_parts, outline
from widelines.shapes import in_area
from widelines.turning import are_rings, ring_sum, turning

ALL = tuple(SCENERIES.values()) + WIDE[::3] + tuple(by_chance(33, 60, 4, 5))
SQUARE = SCENERIES["one"]
HOLE = SCENERIES["a hole"]
TOUCHING = SCENERIES["that touch in a corner"]


def edges_of(ring):
    spots = [spot(one) for one in ring]
    return list(zip(spots, spots[1:] + spots[:1]))


def line_and_ends(piece):
    """The straight line of a piece, however it goes; its ends along it; whether it goes as the line does."""
    a, b = piece
    low, high = min(a, b), max(a, b)
    if low[0] == high[0]:
        key = ("up", low[0])
    else:
        slope = (high[1] - low[1]) / (high[0] - low[0])
        key = (slope, low[1] - slope * low[0])
    return key, low, high, a < b


def verdict(shapes, rings):
    """Point 32 word by word: all is split into stretches in which nothing begins or ends."""
    parts = [line_and_ends((spot(a), spot(b))) for a, b in bare_parts(shapes)]
    ways = [[line_and_ends(edge) for edge in edges_of(ring)] for ring in rings]
    marks = {}
    for key, low, high, rises in parts + [way for ring in ways for way in ring]:
        marks.setdefault(key, set()).update((low, high))
    marks = {key: sorted(some) for key, some in marks.items()}

    def stretches(way):
        row = [one for one in marks[way[0]] if way[1] <= one <= way[2]]
        return [(way[0], one) for one in row[:-1]]

    bare = {(stretch, part[3]) for part in parts for stretch in stretches(part)}
    for r, ring in enumerate(ways):
        if any((stretch, way[3]) not in bare for way in ring for stretch in stretches(way)):
            return "edge", r
    gone = set()
    for r, ring in enumerate(ways):
        for way in ring:
            for stretch in stretches(way):
                if stretch in gone:
                    return "twice", r
                gone.add(stretch)
    for k, part in enumerate(parts):
        if any(stretch not in gone for stretch in stretches(part)):
            return "lack", k
    return None


class OutlineCase(unittest.TestCase):
    def let_by(self, shapes, some):
        check_answers(self, lambda thing: lets_outline(shapes, thing), some, True)

    def refused(self, shapes, some, word, number):
        check_refused(self, lambda thing: lets_outline(shapes, thing), NoOutline, some, word, number)

    def check_by_the_words(self, shapes, rings):
        wanted = verdict(shapes, rings)
        if wanted is None:
            self.let_by(shapes, [rings])
        else:
            self.refused(shapes, [rings], *wanted)
        return wanted


class TestLetBy(OutlineCase):
    def test_told_outlines(self):
        for shapes in ALL:
            self.let_by(shapes, [outline(shapes)])

    def test_in_any_order_and_begun_elsewhere(self):
        for shapes in ALL:
            rings = outline(shapes)
            self.let_by(shapes, [rings[::-1], tuple(ring[1:] + ring[:1] for ring in rings)])
            self.let_by(shapes, [tuple(ring[-2:] + ring[:-2] for ring in rings)])

    def test_with_more_places_on_their_edges(self):
        for shapes in ALL:
            split = []
            for ring in outline(shapes):
                row = []
                for a, b in zip(ring, ring[1:] + ring[:1]):
                    middle = at(*midst(a, b))
                    row += [a, at(*midst(a, middle)), middle]
                split.append(tuple(row))
            self.let_by(shapes, [tuple(split)])

    def test_part_by_part(self):
        square = box(0, 0, 4, 4)
        shapes = (square, box(0, 1, 2, 3), box(4, 1, 5, 2))
        self.let_by(shapes, [(places((0, 0), (4, 0), (4, 1), (5, 1), (5, 2), (4, 2), (4, 4), (0, 4), (0, 3), (0, 1)),)])
        self.let_by(shapes, [(places((0, 2), (0, 0), (3, 0), (4, 0), (4, 1), (5, 1), (5, 2), (4, 2), (4, 3), (4, 4), (0, 4)),)])

    def test_joined_otherwise(self):
        one, other = TOUCHING
        self.assertEqual(outline(TOUCHING), TOUCHING)
        # As one ring that comes twice to the place in which both touch.
        self.let_by(TOUCHING, [(places((0, 0), (2, 0), (2, 2), (4, 2), (4, 4), (2, 4), (2, 2), (0, 2)),)])
        self.let_by(TOUCHING, [(other, one)])

    def test_split_otherwise(self):
        shapes = SCENERIES["a hole at the least place"]
        hole = places((0, 0), (5, Fraction(5, 2)), (5, Fraction(-5, 2)))
        self.assertEqual(len(outline(shapes)), 1)
        self.let_by(shapes, [(places((0, 0), (6, -6), (6, 6)), hole), (hole[1:] + hole[:1], places((6, 6), (0, 0), (6, -6)))])
        shapes = SCENERIES["an island that touches"]
        corners = places((2, 2), (2, 3), (3, 2)), places((2, 3), (2, 4), (3, 4))
        corners += places((3, 4), (4, 4), (4, 3)), places((4, 3), (4, 2), (3, 2))
        self.let_by(shapes, [(box(0, 0, 6, 6),) + corners])

    def test_no_shapes(self):
        self.let_by((), [()])
        self.refused((), [SQUARE], "edge", 0)


class TestShape(OutlineCase):
    def test_no_rings(self):
        ring = SQUARE[0]
        some = [[ring], ring, (list(ring),), (ring[:2],), (ring + ring[:1],), (ring, ring[:2]), (ring, ()), ((),), [], [()]]
        some += [(tuple(list(one) for one in ring),), ring[0], (ring[:1] + ring,), None, True, 0, "rings", (ring, None)]
        some += [((0, 0, 1), (2, 0, True), (2, 2, 1)), (((0, 0, 1), (2, 0, True), (2, 2, 1)),)]
        for shapes in (SQUARE, (), HOLE):
            self.refused(shapes, some, "shape", 0)
            self.refused(shapes, [thing for thing in OTHER_THINGS if thing != ()], "shape", 0)
            self.refused(shapes, [(thing,) for thing in OTHER_THINGS + FRACTIONS], "shape", 0)

    def test_ahead_of_all_else(self):
        wrong = places((7, 7), (9, 7), (9, 9))
        self.refused(SQUARE, [(wrong, wrong[:2]), (wrong, wrong, None), SQUARE + SQUARE + (1,), (wrong[:2], wrong)], "shape", 0)

    def test_any_part_else(self):
        for other in NO_NUMBERS:
            self.refused(SQUARE, [(row,) for row in with_one_part_else(SQUARE[0], (other, 0, 1))], "shape", 0)


class TestEdge(OutlineCase):
    def test_beside(self):
        far = 1 + Fraction(1, 10**30)
        self.refused(SQUARE, [(places((0, 0), (2, 0), (2, 2), (0, 2), (0, far), (1, 1)),)], "edge", 0)
        self.refused(SQUARE, [(places((0, 0), (2, 0), (2, 2 + far - 1), (0, 2)),)], "edge", 0)
        self.refused(SQUARE, [(places((0, 0), (2, 0), (2, 2)),), (places((0, 0), (3, 0), (2, 2), (0, 2)),)], "edge", 0)

    def test_too_long_or_past_a_gap(self):
        shapes = (box(0, 0, 2, 2), box(3, 0, 5, 2))
        whole = outline(shapes)
        self.let_by(shapes, [whole])
        self.refused(shapes, [(box(0, 0, 5, 2),), (box(0, 0, 3, 2),)], "edge", 0)
        self.refused(shapes, [whole + (box(0, 0, 5, 2),), (whole[0], whole[1], box(3, 0, 6, 2))], "edge", 2)
        self.refused(shapes, [(whole[0], box(2, 0, 5, 2)), (whole[0], box(1, 0, 5, 2), whole[1])], "edge", 1)

    def test_the_other_way_about(self):
        self.refused(SQUARE, [(SQUARE[0][::-1],)], "edge", 0)
        outer, hole = outline(HOLE)
        self.refused(HOLE, [(outer, hole[::-1])], "edge", 1)
        self.refused(HOLE, [(outer[::-1], hole), (outer[::-1], hole[::-1])], "edge", 0)
        self.refused(HOLE, [(outer, hole, hole[::-1])], "edge", 2)
        # There and back along one bare part.
        self.refused(SQUARE, [(places((0, 0), (2, 0), (1, 0)),), (places((0, 0), (2, 0), (2, 2), (2, 1), (2, 2), (0, 2)),)], "edge", 0)

    def test_within_the_area(self):
        shapes = SCENERIES["along an edge, side by side"]
        self.refused(shapes, [shapes, shapes[::-1]], "edge", 0)
        shapes = SCENERIES["one within another"]
        self.refused(shapes, [shapes], "edge", 1)

    def test_ahead_of_twice_and_lack(self):
        outer, hole = outline(HOLE)
        wrong = box(7, 7, 8, 8)
        self.refused(HOLE, [(outer, outer, wrong), (hole, hole, wrong)], "edge", 2)
        self.refused(HOLE, [(wrong,), (wrong, wrong)], "edge", 0)
        self.refused(HOLE, [(outer, outer, hole, wrong, wrong)], "edge", 3)


class TestTwice(OutlineCase):
    def test_a_ring_again(self):
        outer, hole = outline(HOLE)
        self.refused(HOLE, [(outer, outer), (outer, outer, hole)], "twice", 1)
        self.refused(HOLE, [(outer, hole, outer), (outer, hole, hole), (outer, hole, hole[1:] + hole[:1])], "twice", 2)

    def test_round_twice(self):
        outer, hole = outline(HOLE)
        self.refused(HOLE, [(outer + outer, hole), (outer + outer,), (outer + outer, hole + hole)], "twice", 0)
        self.refused(HOLE, [(outer, hole + hole)], "twice", 1)

    def test_ahead_of_lack(self):
        outer, hole = outline(HOLE)
        self.refused(HOLE, [(hole, hole)], "twice", 1)

    def test_split_otherwise(self):
        ring = places((1, 0), (2, 0), (2, 1), (2, 2), (1, 2), (0, 2), (0, 1), (0, 0))
        self.let_by(SQUARE, [(ring,)])
        self.refused(SQUARE, [(ring, SQUARE[0]), (SQUARE[0], ring)], "twice", 1)
        self.refused(SQUARE, [(ring + places((2, 0), (2, 2), (0, 2), (0, 0)),)], "twice", 0)

    def test_places_in_common_are_none(self):
        self.let_by(TOUCHING, [TOUCHING])


class TestLack(OutlineCase):
    def test_nothing(self):
        for shapes in ALL:
            if shapes:
                self.refused(shapes, [()], "lack", 0)

    def test_a_ring_lacks(self):
        outer, hole = outline(HOLE)
        parts = bare_parts(HOLE)
        for ring, lacking in ((hole, outer), (outer, hole)):
            on_lacking = [k for k, part in enumerate(parts) if verdict_on(part, lacking)]
            self.refused(HOLE, [(ring,)], "lack", on_lacking[0])

    def test_each_ring_but_one(self):
        for shapes in ALL:
            rings = outline(shapes)
            for k in range(len(rings)):
                self.assertEqual(self.check_by_the_words(shapes, rings[:k] + rings[k + 1:])[0], "lack")


def verdict_on(part, ring):
    """Whether a part lies on an edge of a ring."""
    middle = midst(*part)
    for a, b in edges_of(ring):
        if (b[0] - a[0]) * (middle[1] - a[1]) == (b[1] - a[1]) * (middle[0] - a[0]) and min(a, b) < middle < max(a, b):
            return True
    return False


class TestByTheWords(OutlineCase):
    def changed(self, chance, rings):
        """Rings with something done to them that may be right or wrong."""
        rings = [list(ring) for ring in rings]
        for count in range(chance.randint(1, 2)):
            what = chance.randrange(7)
            if not rings:
                return ()
            ring = chance.choice(rings)
            k = chance.randrange(len(ring))
            if what == 0:
                ring.insert(k, at(*midst(ring[k - 1], ring[k])))
            elif what == 1:
                ring.pop(k)
            elif what == 2:
                rings.append(list(chance.choice(rings)))
            elif what == 3:
                rings.remove(ring)
            elif what == 4:
                ring.reverse()
            elif what == 5:
                ring[k] = at(chance.randint(0, 4), chance.randint(0, 4))
            elif what == 6:
                ring.extend(chance.choice(rings))
        chance.shuffle(rings)
        return tuple(tuple(ring) for ring in rings)

    def test_changed_outlines(self):
        chance = Random(32)
        seen = {}
        for shapes in ALL * 12:
            rings = self.changed(chance, outline(shapes))
            if are_rings(rings):
                wanted = self.check_by_the_words(shapes, rings)
                word = wanted and wanted[0]
                seen[word] = seen.get(word, 0) + 1
                if word is None:
                    self.check_turning(shapes, rings)
        self.assertTrue(all(seen.get(word, 0) > 20 for word in (None, "edge", "twice", "lack")), seen)

    def check_turning(self, shapes, rings):
        self.assertEqual(ring_sum(rings), ring_sum(outline(shapes)))
        for one in [one for shape in shapes for one in shape][:6] + [at(1, Fraction(1, 2)), at(2, 1), at(5, 5)]:
            self.assertIn(turning(rings, one), (None, 1) if in_area(shapes, one) else (0,))

    def test_great_numbers(self):
        great = 10**29
        shapes = (
            ((0, 0, 1), (2 * great, 2, great - 1), (2 * great + 1, 5, great - 3)),
            ((-1, 1, great - 1), (great, -7, great + 3), (great, great, great - 1)),
        )
        rings = outline(shapes)
        self.let_by(shapes, [rings])
        moved = (rings[0][:-1] + (at(*(part + Fraction(1, 10**100) for part in spot(rings[0][-1]))),),)
        self.refused(shapes, [moved], "edge", 0)


if __name__ == "__main__":
    unittest.main()
