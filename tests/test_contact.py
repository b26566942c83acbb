"""Points 55 and 56, with the pair tables of point 15."""

import itertools
import random
import unittest

from everypoint.contact import apart_table, is_overlap_cube, is_parting, overlap_cube, parting_half, relation
from everypoint.keeping import kept_tree, move_tree, outside_tree, within
from everypoint.moves import make_move, mirror_axis, moved_half, quarter_turn, scale_by, shift_by
from everypoint.pieces import convex_witness
from everypoint.planes import is_half, opposite, side_of
from everypoint.ratios import add, is_ratio, multiply, negate, sign
from everypoint.shapes import box, hull, octahedron, tetrahedron, wedge
from everypoint.systems import closed, dimension, has_point, is_pair_table
from everypoint.trees import in_cells, read_tree, tree_planes
from everypoint.vectors import is_vector, plus
from samples import (
    BOUNDED, CORNERED, CUBE, CUBES_TREE, EMPTY, FULL, GEM, NOT_BOUNDED, RING, SHELL, SPIKE, TWO_APART, TWO_IN_A_CORNER, TWO_IN_AN_EDGE,
    some_body, some_kept_trees, some_plane, some_point, telling_points)
from support import X0, Y0, Z0, SpaceTest, kinds_of, lists_in, plane_at, point

HALF = (1, 2)
X1, Y1, Z1 = plane_at(0, 1), plane_at(1, 1), plane_at(2, 1)
MOVES = [
    shift_by(point((1, 2), 0, -3)), scale_by(point(2, (-1, 3), 1)), mirror_axis(0), quarter_turn(1),
    make_move([[1, 2, 0], [0, 1, (1, 2)], [1, 0, -2]], [1, -1, 0])]


def boxed(x, y, z, size=1):
    return box(point(x, y, z), point(x + size, y + size, z + size))


# Pairs of expressions with the size of their contact.
TOUCHING = [
    (CUBE, boxed(1, 0, 0), 2), (CUBE, boxed(0, -1, 0), 2), (CUBE, box(point(1, HALF, HALF), point(2, 5, 5)), 2),
    (CUBE, boxed(1, 1, 0), 1), (CUBE, box(point(1, -1, 1), point(2, HALF, 2)), 1), (CUBE, boxed(1, 1, 1), 0), (CUBE, boxed(-1, 1, -1), 0),
    # A corner on a face, an edge within a face, a corner on an edge, and two edges that cross.
    (CUBE, tetrahedron(point(1, HALF, HALF), point(2, 0, 0), point(2, 1, 0), point(2, HALF, 1)), 0),
    (CUBE, tetrahedron(point(1, (1, 4), HALF), point(1, (3, 4), HALF), point(2, HALF, 0), point(2, HALF, 1)), 1),
    (CUBE, tetrahedron(point(1, 1, HALF), point(3, 2, 0), point(2, 3, 0), point(3, 3, 1)), 0),
    (CUBE, hull([point(2, 0, 0), point(0, 2, 1), point(2, 2, 0), point(2, 2, 1)]), 0),
    # At several places: the greatest size counts.
    (CORNERED, boxed(1, 1, 1), 2), (TWO_IN_AN_EDGE, box(point(1, 0, 0), point(2, 1, 1)), 2), (TWO_APART, box(point(1, 1, 1), point(3, 2, 2)), 1),
    (TWO_IN_A_CORNER, box(point(0, 0, 1), point(1, 1, 2)), 2), (("outside", CUBE), CUBE, 2), (("outside", SHELL), SHELL, 2),
    # Two corners on one line, and in no line three of them.
    (TWO_APART, ("join", tetrahedron(point(HALF, HALF, 1), point(0, 0, 2), point(1, 0, 2), point(0, 1, 2)),
                 tetrahedron(point((7, 2), HALF, 1), point(3, 0, 2), point(4, 0, 2), point(3, 1, 2))), 0),
    # Two faces on different planes.
    (TWO_IN_A_CORNER, ("join", boxed(-1, 0, 0), boxed(2, 1, 1)), 2),
    # Solids that are not bounded: a face, a line, a point.
    (("half", Z0, 1), ("half", Z0, -1), 2), (NOT_BOUNDED["quarter"], ("meet", ("half", X0, -1), ("half", Y0, 1)), 1),
    (NOT_BOUNDED["cone"], ("meet", ("half", X0, -1), ("meet", ("half", Y0, -1), ("half", Z0, -1))), 0),
    (NOT_BOUNDED["layer"], ("half", (0, 0, 1, -2), 1), 2),
]
APART = [
    (CUBE, boxed(2, 0, 0)), (CUBE, boxed(0, 0, -3)), (TWO_APART, boxed(2, 3, 0)), (SHELL, box(point((4, 3), (4, 3), (4, 3)), point((5, 3), (5, 3), (5, 3)))),
    (("half", Z1, 1), ("half", Z0, -1)), (NOT_BOUNDED["pillar"], boxed(5, 5, 5)),
    (EMPTY, CUBE), (EMPTY, FULL), (EMPTY, EMPTY), (GEM, octahedron(point(0, HALF, 4), (3, 2))),
]
OVERLAPPING = [
    (CUBE, CUBE), (CUBE, SPIKE), (FULL, CUBE), (FULL, FULL), (FULL, ("half", Z0, 1)), (RING, GEM), (SHELL, boxed(0, 0, 0)), (TWO_APART, GEM),
    (("outside", CUBE), boxed(1, 0, 0, 2)), (("half", Z0, 1), ("half", Z1, -1)), (CUBE, box(point((9, 10), (9, 10), (9, 10)), point(2, 2, 2))),
]


def some_pairs(seed, count):
    """Pairs of kept trees of bodies with small numbers; many of them touch."""
    chooser = random.Random(seed)

    def body():
        low = [chooser.randint(-2, 1) for _ in range(3)]
        one = box(point(*low), point(*[part + chooser.randint(1, 2) for part in low]))
        two = some_body(chooser) if chooser.random() < 0.4 else boxed(*[chooser.randint(-2, 1) for _ in range(3)])
        return chooser.choice((one, two, ("join", one, two), ("take", one, two)))
    trees = [tree for _, tree in some_kept_trees(chooser, body, 2 * count)]
    return list(zip(trees[:count], trees[count:]))


def relation_by_definition(first, second):
    """Point 55 as it stands, for each pair of "in" cells."""
    pairs = [(one, other) for one in in_cells(first) for other in in_cells(second)]
    if any(has_point(one + other) for one, other in pairs):
        return ("overlap",)
    size = max([dimension(closed(one) + closed(other)) for one, other in pairs], default=-1)
    return ("touch", size) if size >= 0 else ("apart",)


class TestRelation(SpaceTest):

    def assert_relation(self, first, second, *wanted):
        for told, one, other in ((relation(first, second), first, second), (relation(second, first), second, first)):
            self.assertIs(type(told), tuple)
            if wanted[0] == "apart":
                self.assert_same(told, ("apart",))
                continue
            self.assert_same(told[:-1], wanted)
            self.assertIs(is_vector(told[-1]), True)
            reading = "in" if wanted[0] == "overlap" else "on"
            self.assertEqual((read_tree(one, told[-1]), read_tree(other, told[-1])), (reading, reading))

    def test_known_pairs(self):
        for first, second, size in TOUCHING:
            self.assert_relation(kept_tree(first), kept_tree(second), "touch", size)
        for first, second in APART:
            self.assert_relation(kept_tree(first), kept_tree(second), "apart")
        for first, second in OVERLAPPING:
            self.assert_relation(kept_tree(first), kept_tree(second), "overlap")

    def test_empty_and_full(self):
        for tree in ("out", "in", kept_tree(CUBE), (Z0, "in", "out"), CUBES_TREE):
            self.assert_relation("out", tree, "apart")
            if tree != "out":
                self.assert_relation("in", tree, "overlap")

    def test_a_solid_and_its_outside(self):
        for expression in list(BOUNDED.values()) + list(NOT_BOUNDED.values()):
            tree = kept_tree(expression)
            if tree not in ("in", "out"):
                self.assert_relation(tree, outside_tree(tree), "touch", 2)
                self.assert_relation(tree, tree, "overlap")
        self.assert_relation(CUBES_TREE, outside_tree(CUBES_TREE), "touch", 2)

    def test_by_definition(self):
        told = {}
        pairs = some_pairs(55, 60)
        pairs += [(kept_tree(first), kept_tree(second)) for first, second, size in TOUCHING]
        for first, second in pairs:
            wanted = relation_by_definition(first, second)
            self.assert_relation(first, second, *wanted)
            told[wanted] = told.get(wanted, 0) + 1
        self.assertEqual(len(told), 5)
        self.assertGreater(min(told.values()), 3)

    def test_the_size_depends_on_the_solids_alone(self):
        for first, second, size in TOUCHING[::2]:
            one, other = kept_tree(first), kept_tree(second)
            for move in MOVES:
                self.assert_relation(move_tree(move, one), move_tree(move, other), "touch", size)

    def test_contacts_read_on_for_both(self):
        for first, second, size in TOUCHING:
            one, other = kept_tree(first), kept_tree(second)
            for place in telling_points(tree_planes(one) + tree_planes(other), random.Random(size), 30):
                readings = {read_tree(one, place), read_tree(other, place)}
                self.assertTrue("out" in readings or readings == {"on"})

    def test_more_than_twelve_planes_together(self):
        self.assertGreater(len(set(tree_planes(CUBES_TREE) + tree_planes(kept_tree(GEM)))), 12)
        self.assert_relation(CUBES_TREE, kept_tree(GEM), "overlap")
        self.assert_relation(CUBES_TREE, move_tree(shift_by(point(3, 0, 0)), CUBES_TREE), "touch", 2)
        self.assert_relation(CUBES_TREE, move_tree(shift_by(point(4, 1, 1)), CUBES_TREE), "apart")


class TestOverlapCubes(SpaceTest):

    def assert_cube(self, first, second):
        told = overlap_cube(first, second)
        self.assertIs(type(told), tuple)
        p, r = told
        self.assertIs(is_vector(p), True)
        self.assertIs(is_ratio(r), True)
        self.assertEqual(sign(r), 1)
        self.assertIs(is_overlap_cube(first, second, told), True)
        self.assertIs(is_overlap_cube(second, first, told), True)
        almost = multiply(r, (999999, 1000000))
        for parts in itertools.product(((0, 1), almost, negate(almost)), repeat=3):
            place = plus(p, parts)
            self.assertEqual((read_tree(first, place), read_tree(second, place)), ("in", "in"))

    def test_known_pairs(self):
        for first, second in OVERLAPPING:
            self.assert_cube(kept_tree(first), kept_tree(second))
        for first, second, size in TOUCHING:
            self.assertIsNone(overlap_cube(kept_tree(first), kept_tree(second)))
        for first, second in APART:
            self.assertIsNone(overlap_cube(kept_tree(first), kept_tree(second)))

    def test_more_pairs(self):
        found = 0
        for first, second in some_pairs(57, 60):
            if relation(first, second)[0] == "overlap":
                self.assert_cube(first, second)
                found += 1
            else:
                self.assertIsNone(overlap_cube(first, second))
        self.assertGreater(found, 10)

    def test_cubes_that_are_just_too_large(self):
        cube, other = kept_tree(CUBE), kept_tree(box(point(HALF, 0, 0), point(2, 2, 2)))
        centre = point((3, 4), HALF, HALF)
        for r, wanted in (((1, 4), True), ((1, 5), True), ((1, 10 ** 30), True), ((10 ** 30 + 1, 4 * 10 ** 30), False), ((1, 3), False), ((9, 1), False)):
            self.assertIs(is_overlap_cube(cube, other, (centre, r)), wanted)
            self.assertIs(is_overlap_cube(other, cube, (centre, r)), wanted)
        # Each of the six sides, and a slanted face.
        for axis, far in itertools.product(range(3), (1, -1)):
            place = tuple(HALF if k != axis else add(HALF, (far, 8)) for k in range(3))
            self.assertIs(is_overlap_cube(cube, cube, (place, (3, 8))), True)
            self.assertIs(is_overlap_cube(cube, cube, (place, (2, 5))), False)
        roof = kept_tree(wedge(point(0, 0, 0), point(1, 1, 1)))
        place = point((1, 4), HALF, (1, 4))
        self.assertIs(is_overlap_cube(roof, "in", (place, (1, 4))), True)
        self.assertIs(is_overlap_cube(roof, "in", (place, (251, 1000))), False)
        self.assertIs(is_overlap_cube(roof, "in", (point((1, 3), HALF, (1, 3)), (1, 6))), True)
        self.assertIs(is_overlap_cube(roof, "in", (point((1, 3), HALF, (1, 3)), (167, 1000))), False)

    def test_cubes_across_walls(self):
        """A cube may lie in several cells, as long as all of its points read "in"."""
        ring = kept_tree(RING)
        self.assertIs(is_overlap_cube(ring, "in", (point(1, HALF, HALF), HALF)), True)
        self.assertIs(is_overlap_cube(ring, "in", (point(1, HALF, HALF), (51, 100))), False)
        self.assertIs(is_overlap_cube(ring, "in", (point((3, 2), (3, 2), HALF), (1, 10))), False)
        self.assertIs(is_overlap_cube("in", "in", (point(1, 2, 3), (10 ** 40, 1))), True)
        self.assertIs(is_overlap_cube("out", "in", (point(1, 2, 3), (1, 10 ** 40))), False)
        # Through the edge in which two boxes touch.
        self.assertIs(is_overlap_cube(kept_tree(TWO_IN_AN_EDGE), "in", (point(1, 1, HALF), (1, 9))), False)

    def test_by_the_boxes_that_they_are(self):
        chooser = random.Random(62)
        told = {True: 0, False: 0}
        for first, second in some_pairs(63, 40) + [(CUBES_TREE, "in"), (outside_tree(kept_tree(GEM)), outside_tree(kept_tree(RING)))] * 10:
            for _ in range(3):
                p, r = some_point(chooser, 3, 4), chooser.choice([(1, 8), (1, 4), (1, 2), (3, 2)])
                cube = kept_tree(box(tuple(add(part, negate(r)) for part in p), tuple(add(part, r) for part in p)))
                wanted = within(cube, first) and within(cube, second)
                self.assertIs(is_overlap_cube(first, second, (p, r)), wanted)
                told[wanted] += 1
        self.assertGreater(min(told.values()), 10)

    def test_values(self):
        p = point(HALF, HALF, HALF)
        cube = kept_tree(CUBE)
        for value, wanted in (
                ((p, HALF), True), ((p, (1, 3)), True), ((p, 1), False), ((p, 0), False), ((p, (0, 1)), False), ((p, (-1, 2)), False), ((p, (2, 4)), False),
                ([p, HALF], False), ((p,), False), ((p, HALF, HALF), False), ((list(p), HALF), False), ((p, [1, 2]), False), ((p[:2], HALF), False),
                ((p, (True, 2)), False), ((p, (1, True)), False), ((p, None), False), ((HALF, p), False), ((p, p), False), (((1, 2, 3), HALF), False),
                (p, False)):
            self.assertIs(is_overlap_cube(cube, cube, value), wanted, value)
        for first, second in ((cube, cube), ("in", "in"), ("in", "out"), (cube, kept_tree(boxed(1, 0, 0)))):
            self.assert_takes_plain_values(is_overlap_cube, first, second)


class TestApartTables(SpaceTest):

    def assert_table(self, first, second):
        table = apart_table(first, second)
        one, other = [closed(cell) for cell in in_cells(first)], [closed(cell) for cell in in_cells(second)]
        self.assertIs(is_pair_table(one, other, table), True)
        self.assertEqual((len(table), {len(row) for row in table}), (len(one), {len(other)} if one else set()))
        lists = lists_in(table)
        self.assertEqual(len({id(member) for member in lists}), len(lists))
        expected = kinds_of(table)
        for member in lists:
            member.append("changed")
        self.assertEqual(kinds_of(apart_table(first, second)), expected)

    def test_known_pairs(self):
        for first, second in APART:
            self.assert_table(kept_tree(first), kept_tree(second))
            self.assert_table(kept_tree(second), kept_tree(first))
        for first, second in OVERLAPPING + [pair[:2] for pair in TOUCHING]:
            self.assertIsNone(apart_table(kept_tree(first), kept_tree(second)))
            self.assertIsNone(apart_table(kept_tree(second), kept_tree(first)))

    def test_empty_solids(self):
        self.assert_same(apart_table("out", "out"), [])
        self.assert_same(apart_table("out", "in"), [])
        self.assert_same(apart_table("in", "out"), [[]])
        self.assert_same(apart_table("out", kept_tree(RING)), [])
        self.assert_same(apart_table(kept_tree(RING), "out"), [[], [], [], []])
        self.assertIsNone(apart_table("in", "in"))

    def test_more_pairs(self):
        told = {True: 0, False: 0}
        for first, second in some_pairs(58, 40):
            apart = relation(first, second) == ("apart",)
            if apart:
                self.assert_table(first, second)
            else:
                self.assertIsNone(apart_table(first, second))
            told[apart] += 1
        self.assertGreater(min(told.values()), 4)


class TestParting(SpaceTest):

    def assert_parts(self, first, second):
        half = parting_half(first, second)
        self.assertIs(is_half(half), True)
        self.assertIs(is_parting(first, second, half), True)
        self.assertIs(is_parting(second, first, opposite(half)), True)
        self.assertIs(is_parting(second, first, half), False)
        plane, side = half
        for conditions in in_cells(first):
            self.assertIs(has_point(conditions + [(plane, -side)]), False)
        for conditions in in_cells(second):
            self.assertIs(has_point(conditions + [(plane, side)]), False)

    def test_convex_solids_that_do_not_overlap(self):
        found = 0
        pairs = [(kept_tree(pair[0]), kept_tree(pair[1])) for pair in TOUCHING + APART]
        for first, second in pairs + some_pairs(59, 60):
            if {first, second} & {"in", "out"} or convex_witness(first) or convex_witness(second):
                continue
            if relation(first, second)[0] == "overlap":
                self.assert_error("NoParting", parting_half, first, second, why="overlap")
                self.assert_error("NoParting", parting_half, second, first, why="overlap")
            else:
                self.assert_parts(first, second)
                self.assert_parts(second, first)
                found += 1
        self.assertGreater(found, 30)

    def test_the_only_half(self):
        self.assert_same(parting_half(kept_tree(CUBE), kept_tree(boxed(1, 0, 0))), (X1, -1))
        self.assert_same(parting_half(kept_tree(boxed(1, 0, 0)), kept_tree(CUBE)), (X1, 1))
        self.assert_same(parting_half((Z0, "in", "out"), (Z0, "out", "in")), (Z0, 1))
        self.assert_same(parting_half(kept_tree(CUBE), (Z1, "in", "out")), (Z1, -1))
        # Two edges that cross: one plane holds both.
        first = hull([point(-1, 0, 0), point(1, 0, 0), point(0, 1, -3), point(0, -1, -3)])
        second = hull([point(0, -1, 0), point(0, 1, 0), point(1, 0, 3), point(-1, 0, 3)])
        self.assert_same(parting_half(kept_tree(first), kept_tree(second)), (Z0, -1))

    def test_each_word(self):
        cube, gem, ring, shell = kept_tree(CUBE), kept_tree(GEM), kept_tree(RING), kept_tree(SHELL)
        for first, second, why in (
                ("out", "out", "trivial"), ("in", "in", "trivial"), ("in", "out", "trivial"), ("out", cube, "trivial"), (cube, "out", "trivial"),
                ("in", cube, "trivial"), (cube, "in", "trivial"),
                # Trivial before bent, bent before overlap.
                ("out", ring, "trivial"), (ring, "in", "trivial"), (ring, cube, "bent"), (cube, ring, "bent"), (ring, shell, "bent"), (ring, ring, "bent"),
                (kept_tree(TWO_APART), gem, "bent"), (ring, kept_tree(boxed(9, 9, 9)), "bent"), (outside_tree(cube), cube, "bent"),
                (cube, cube, "overlap"), (cube, gem, "overlap"), (gem, kept_tree(SPIKE), "overlap"), (cube, (Z0, "in", "out"), "overlap"),
                ((Z0, "in", "out"), (Z1, "out", "in"), "overlap")):
            self.assert_error("NoParting", parting_half, first, second, why=why)

    def test_is_parting(self):
        cube, ring, apart = kept_tree(CUBE), kept_tree(RING), kept_tree(TWO_APART)
        for first, second, half, wanted in (
                (cube, kept_tree(boxed(2, 0, 0)), (X1, -1), True), (cube, kept_tree(boxed(2, 0, 0)), ((2, 0, 0, -3), -1), True),
                (cube, kept_tree(boxed(2, 0, 0)), (plane_at(0, 2), -1), True), (cube, kept_tree(boxed(2, 0, 0)), (X1, 1), False),
                (cube, kept_tree(boxed(2, 0, 0)), ((5, 0, 0, -11), -1), False), (cube, kept_tree(boxed(2, 0, 0)), ((2, 0, 0, -1), -1), False),
                (cube, kept_tree(boxed(2, 0, 0)), (X0, 1), False), (cube, kept_tree(boxed(2, 0, 0)), (Z0, 1), False),
                # Empty, full and bent solids.
                ("out", "out", (Z0, 1), True), ("out", "in", (Z0, 1), False), ("in", "out", (Z0, 1), False), ("out", cube, (Z0, -1), True),
                ("out", cube, (Z0, 1), False), (cube, "out", (Z0, 1), True), (cube, "out", (Z0, -1), False), ("in", "in", (Z0, 1), False),
                (ring, kept_tree(boxed(0, 0, 1, 3)), (Z1, -1), True), (ring, apart, (Z0, 1), False), (apart, kept_tree(boxed(0, 2, 0)), (plane_at(1, 2), -1), True),
                (apart, kept_tree(boxed(1, 0, 0)), (X1, -1), False), ((Z0, "in", "out"), (Z0, "out", "in"), (Z0, 1), True),
                ((Z0, "in", "out"), (Z0, "out", "in"), (Z0, -1), False), ((Z0, "in", "out"), (Z0, "out", "in"), (Z1, 1), False)):
            self.assertIs(is_parting(first, second, half), wanted, (half, wanted))

    def test_is_parting_by_definition(self):
        chooser = random.Random(60)
        told = {True: 0, False: 0}
        for first, second in some_pairs(61, 60):
            for plane in [some_plane(chooser, 1), chooser.choice([X0, Y0, Z0, X1, Y1])] + tree_planes(first)[:2]:
                for side in (1, -1):
                    wanted = not any(has_point(conditions + [(plane, -side)]) for conditions in in_cells(first))
                    wanted = wanted and not any(has_point(conditions + [(plane, side)]) for conditions in in_cells(second))
                    self.assertIs(is_parting(first, second, (plane, side)), wanted)
                    told[wanted] += 1
                    if wanted:
                        self.assertNotEqual(relation(first, second)[0], "overlap")
        self.assertGreater(min(told.values()), 10)

    def test_moved_solids(self):
        for move in MOVES:
            first, second = move_tree(move, kept_tree(CUBE)), move_tree(move, kept_tree(boxed(1, 0, 0)))
            self.assert_same(parting_half(first, second), moved_half(move, (X1, -1)))
            self.assert_parts(first, second)
        self.assertEqual(side_of(X1, point(0, 0, 0)), -1)


if __name__ == "__main__":
    unittest.main()
