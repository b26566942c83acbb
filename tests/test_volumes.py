"""Points 44 and 45."""

import inspect
import random
import unittest

from everypoint.expressions import planes_of
from everypoint.faces import faces
from everypoint.keeping import join_trees, kept_tree, meet_trees, move_tree, outside_tree, take_trees
from everypoint.moves import determinant, make_move, mirror_axis, quarter_turn, scale_by, shift_by
from everypoint.planes import side_of
from everypoint.polygons import area_vector, cell_volume, is_bounded_patch, patch_corners
from everypoint.ratios import add, divide, multiply, sign
from everypoint.shapes import hull, octahedron, prism, tetrahedron, wedge
from everypoint.systems import closed, common_point, has_point, holds
from everypoint.trees import in_cells, read_tree
from everypoint.vectors import triple
from everypoint.volumes import section, section_area, volume_by_cells, volume_by_faces
from samples import (
    BOUNDED, CORNERED, CUBE, CUBES_TREE, GEM, HOUSE, NOT_BOUNDED, RING, SHELL, SPIKE, TWO_APART, TWO_IN_A_CORNER,
    TWO_IN_A_FACE, TWO_IN_AN_EDGE, points_of, some_bodies, some_body, some_kept_trees, some_plane, telling_points)
from support import X0, Y0, Z0, SpaceTest, lists_in, plane_at, point

X1, Y1, Z1 = plane_at(0, 1), plane_at(1, 1), plane_at(2, 1)
MOVES = [
    shift_by(point((1, 2), 0, -3)), scale_by(point(2, (-1, 3), 1)), mirror_axis(0), quarter_turn(0), quarter_turn(1, 2),
    make_move([[1, 2, 0], [0, 1, (1, 2)], [1, 0, -2]], [1, -1, 0])]


def section_by_definition(tree, plane):
    """Point 45 as it stands: S, and then those lists left out that have no common point with the plane."""
    def lists_of(node, bounds):
        if node == "in":
            return [bounds]
        if node == "out":
            return []
        cut, front, back = node
        if cut != plane:
            return lists_of(front, bounds + [(cut, 1)]) + lists_of(back, bounds + [(cut, -1)])
        return [
            f + [condition for condition in b if condition not in f]
            for f in lists_of(front, bounds) for b in lists_of(back, bounds)]
    return [bounds for bounds in lists_of(tree, []) if has_point(bounds + [(plane, 0)])]


class TestVolumes(SpaceTest):

    def assert_volume(self, tree, volume):
        self.assert_same(volume_by_cells(tree), volume)
        self.assert_same(volume_by_faces(tree), volume)

    def test_known_volumes(self):
        p, q, r, s = point(0, 0, 0), point(2, 1, 0), point((1, 2), 3, 1), point(-1, 1, 4)
        for expression, volume in (
                (CUBE, (1, 1)), (HOUSE, (3, 2)), (RING, (8, 1)), (SHELL, (26, 1)), (TWO_IN_A_FACE, (2, 1)),
                (TWO_IN_AN_EDGE, (2, 1)), (TWO_IN_A_CORNER, (2, 1)), (TWO_APART, (3, 1)), (CORNERED, (7, 1)), (GEM, (9, 2)),
                (SPIKE, (4, 1)), (BOUNDED["in part of a face"], (11, 2)), (BOUNDED["cube in pieces"], (1, 1)),
                (wedge(point(0, 0, 0), point(2, 3, 5)), (15, 1)), (octahedron(point(1, 2, 3), (1, 3)), (4, 81)),
                (tetrahedron(p, q, r, s), divide(triple(q, r, s), (6, 1))),
                (prism([(3, 1), (1, 3), (-1, 3), (-3, 1), (-3, -1), (-1, -3), (1, -3), (3, -1)], 0, (1, 2)), (14, 1)),
                (hull([point(0, 0, 0), point(2, 0, 0), point(0, 2, 0), point(2, 2, 0), point(1, 1, 3)]), (4, 1)),
                (("take", CUBE, CUBE), (0, 1))):
            self.assert_volume(kept_tree(expression), volume)
        self.assert_volume("out", (0, 1))
        self.assert_volume(CUBES_TREE, (14, 1))

    def test_both_ways_are_equal(self):
        for expression, tree in some_bodies(1, 50):
            volume = volume_by_cells(tree)
            self.assert_volume(tree, volume)
            self.assertEqual(sign(volume), 0 if tree == "out" else 1)
            total = (0, 1)
            for cell in in_cells(tree):
                total = add(total, cell_volume(cell))
            self.assert_same(volume, total)

    def test_join_and_meet(self):
        chooser = random.Random(2)
        pairs = [(kept_tree(CUBE), kept_tree(other)) for other in (CORNERED, RING, TWO_IN_A_CORNER, TWO_APART, HOUSE)]
        while len(pairs) < 25:
            found = some_kept_trees(chooser, lambda: some_body(chooser), 2)
            pairs.append((found[0][1], found[1][1]))
        overlaps = 0
        for first, second in pairs:
            try:
                join, meet = join_trees(first, second), meet_trees(first, second)
                rest = take_trees(first, second)
            except ValueError:
                continue
            overlaps += meet != "out"
            both = add(volume_by_cells(first), volume_by_faces(second))
            self.assert_same(add(volume_by_faces(join), volume_by_cells(meet)), both)
            self.assert_same(add(volume_by_faces(rest), volume_by_faces(meet)), volume_by_cells(first))
        self.assertGreater(overlaps, 8)

    def test_moves(self):
        for move in MOVES:
            factor = determinant(move)
            factor = (abs(factor[0]), factor[1])
            for expression in (CUBE, RING, TWO_IN_A_CORNER, SPIKE):
                tree = kept_tree(expression)
                self.assert_volume(move_tree(move, tree), multiply(factor, volume_by_cells(tree)))
                self.assert_volume(kept_tree(("move", move, expression)), multiply(factor, volume_by_cells(tree)))

    def test_unbounded(self):
        trees = [kept_tree(expression) for expression in NOT_BOUNDED.values()]
        trees += [outside_tree(kept_tree(expression)) for expression in BOUNDED.values()]
        for tree in trees:
            self.assert_error("Unbounded", volume_by_cells, tree)
            self.assert_error("Unbounded", volume_by_faces, tree)
        # All faces of the outside of a box are bounded.
        for plane, inner, bounds in faces(outside_tree(kept_tree(CUBE))):
            self.assertIs(is_bounded_patch(plane, bounds), True)

    def test_large_numbers(self):
        big = 10 ** 40 - 1
        tree = kept_tree(wedge(point(0, 0, 0), point(big, (1, big), 2)))
        self.assert_volume(tree, (1, 1))


class TestSections(SpaceTest):

    def test_known_sections(self):
        cube = kept_tree(CUBE)
        self.assert_same(section(cube, (0, 0, 2, -1)), [[(Z1, -1), (Z0, 1), (Y1, -1), (Y0, 1), (X1, -1), (X0, 1)]])
        self.assert_same(section("in", Z0), [[]])
        self.assert_same(section("out", Z0), [])
        self.assert_same(section((Z0, "in", "out"), X0), [[(Z0, 1)]])
        # A plane of the tree with the solid on both sides, and one with it on one side only.
        both = (Z0, (Y0, "in", (X0, "in", "out")), (Y0, "in", "out"))
        self.assert_same(section(both, Z0), [[(Y0, 1)]])
        self.assert_same(section((Z0, "in", "out"), Z0), [])
        joined = kept_tree(TWO_IN_A_FACE)
        self.assert_same(section(joined, X1), [[(Z1, -1), (Z0, 1), (Y1, -1), (Y0, 1), (plane_at(0, 2), -1), (X0, 1)]])

    def test_conditions_of_both_parts(self):
        """Below a node with the plane itself, each pair of a patch in front and one behind is tried."""
        tree = (Z0, (Y0, (X0, "in", "out"), (X1, "in", "out")), (Y0, ((1, 0, 0, -2), "in", "out"), (X0, "out", "in")))
        self.assert_same(section(tree, Z0), [[(Y0, 1), (X0, 1), ((1, 0, 0, -2), 1)]])
        crossed = (Z0, (X1, "out", (X0, "in", "out")), (X1, (Y0, "in", "out"), (Y0, "out", "in")))
        self.assert_same(section(crossed, Z0), [[(X1, -1), (X0, 1), (Y0, -1)]])
        two = (Z0, (Y0, "in", (X0, "in", "out")), (Y1, "in", (X1, "out", "in")))
        self.assert_same(section(two, Z0), [
            [(Y0, 1), (Y1, 1)], [(Y0, 1), (Y1, -1), (X1, -1)], [(Y0, -1), (X0, 1), (Y1, -1), (X1, -1)]])

    def test_by_definition(self):
        chooser = random.Random(3)
        trees = [tree for expression, tree in some_bodies(4, 15)]
        trees += [kept_tree(expression) for expression in list(BOUNDED.values()) + list(NOT_BOUNDED.values())]
        for tree in trees:
            planes = [face[0] for face in faces(tree)][:4] + [some_plane(chooser) for _ in range(3)]
            for plane in planes + [Z0, (1, 1, 1, -1), plane_at(0, 100)]:
                self.assert_same(section(tree, plane), section_by_definition(tree, plane))

    def test_patches(self):
        """The facts of point 45: the points of patches read "in", all such points are reached, no two patches meet."""
        chooser = random.Random(5)
        made = some_bodies(6, 12) + [(expression, kept_tree(expression)) for expression in BOUNDED.values()]
        made += [(expression, kept_tree(expression)) for expression in NOT_BOUNDED.values()]
        reached = 0
        for expression, tree in made:
            for plane in planes_of(expression)[:4] + [some_plane(chooser), (0, 0, 2, -1), (2, 4, 0, -3)]:
                patches = section(tree, plane)
                for at, bounds in enumerate(patches):
                    self.assertNotIn(plane, [other for other, side in bounds])
                    self.assertEqual(len(set(bounds)), len(bounds))
                    kind, place = common_point(bounds + [(plane, 0)])
                    self.assertEqual(kind, "point")
                    self.assertEqual(read_tree(tree, place), "in")
                    for others in patches[:at]:
                        self.assertIs(has_point(bounds + others + [(plane, 0)]), False)
                for place in telling_points([plane] + planes_of(expression)[:5], chooser, 12):
                    if side_of(plane, place) == 0 and read_tree(tree, place) == "in":
                        reached += 1
                        self.assertTrue(any(holds(closed(bounds), place) for bounds in patches))
        self.assertGreater(reached, 50)

    def test_points_of_patches_read_in(self):
        tree = kept_tree(RING)
        for plane in ((0, 0, 2, -1), (0, 0, 4, -1), (2, 0, 0, -3), (1, 1, 0, -1), X1):
            for bounds in section(tree, plane):
                for place in points_of(RING, 7, 60):
                    if side_of(plane, place) == 0 and holds(bounds, place):
                        self.assertEqual(read_tree(tree, place), "in")

    def test_lists_are_new(self):
        for tree, plane in ((kept_tree(RING), (0, 0, 2, -1)), ("in", Z0), (kept_tree(TWO_IN_A_FACE), X1)):
            found = section(tree, plane)
            lists = lists_in(found)
            self.assertEqual(len({id(member) for member in lists}), len(lists))
            expected = repr(found)
            for member in lists:
                member.append("changed")
            self.assertEqual(repr(section(tree, plane)), expected)


class TestAreas(SpaceTest):

    def test_known_areas(self):
        cube, ring = kept_tree(CUBE), kept_tree(RING)
        for tree, plane, axis, area in (
                (cube, (0, 0, 2, -1), 2, (1, 1)), (ring, (0, 0, 2, -1), 2, (8, 1)), (ring, (2, 0, 0, -3), 0, (2, 1)),
                (ring, (0, 2, 0, -1), 1, (3, 1)), (kept_tree(SHELL), (0, 0, 2, -3), 2, (8, 1)),
                (kept_tree(GEM), Z0, 2, (9, 2)), (kept_tree(GEM), (0, 0, 2, -1), 2, (2, 1)),
                # Slanted planes: the area of the shadow along each axis.
                (cube, (1, 0, -1, 0), 2, (1, 1)), (cube, (1, 0, -1, 0), 0, (1, 1)), (cube, (1, 0, -1, 0), 1, (0, 1)),
                (cube, (1, 0, -2, 0), 2, (1, 1)), (cube, (1, 0, -2, 0), 0, (1, 2)), (cube, (1, 1, 1, -1), 0, (1, 2)),
                (cube, (2, 2, 2, -3), 1, (3, 4)),
                # Planes of the tree: with the solid on both sides, and with it on one side only.
                (kept_tree(TWO_IN_A_FACE), X1, 0, (1, 1)), (ring, X1, 0, (2, 1)), (cube, X1, 0, (0, 1)), (cube, Z0, 2, (0, 1)),
                (kept_tree(HOUSE), Z1, 2, (1, 1)), (kept_tree(CORNERED), Z1, 2, (3, 1)),
                # Planes that the solid does not reach, and the empty solid.
                (cube, plane_at(2, 7), 2, (0, 1)), (cube, (1, 1, 1, 0), 1, (0, 1)), ("out", Z0, 2, (0, 1)),
                (kept_tree(TWO_APART), plane_at(0, 2), 0, (0, 1)),
                # Two bodies that touch in a corner: at its height no point reads "in".
                (kept_tree(TWO_IN_A_CORNER), Z1, 2, (0, 1))):
            self.assert_same(section_area(tree, plane, axis=axis), area, (plane, axis))

    def test_planes_parallel_to_the_axis(self):
        for plane, axis in ((X0, 2), ((2, 0, 0, -1), 2), ((2, 0, 0, -1), 1), ((1, 1, 0, -1), 2), ((0, 0, 2, -1), 0)):
            self.assert_same(section_area(kept_tree(CUBE), plane, axis=axis), (0, 1))
            self.assert_same(section_area(kept_tree(SHELL), plane, axis=axis), (0, 1))

    def test_the_axis_is_told_by_its_name(self):
        self.assertEqual(str(inspect.signature(section_area)), "(tree, plane, *, axis=2)")
        tree = kept_tree(RING)
        self.assert_same(section_area(tree, (2, 3, 7, -9)), section_area(plane=(2, 3, 7, -9), tree=tree, axis=2))
        with self.assertRaises(TypeError):
            section_area(tree, Z0, 2)

    def test_it_is_the_sum_over_the_patches(self):
        chooser = random.Random(8)
        found = 0
        for expression, tree in some_bodies(9, 25):
            plane = some_plane(chooser, 2)
            for axis in range(3):
                total = (0, 1)
                for bounds in section(tree, plane):
                    part = area_vector(patch_corners(plane, bounds))[axis]
                    total = add(total, (abs(part[0]), part[1]))
                self.assert_same(section_area(tree, plane, axis=axis), total)
                found += total != (0, 1)
        self.assertGreater(found, 20)

    def test_areas_make_up_the_volume(self):
        """Between two heights of a prism-like body the area does not change; for a wedge it falls evenly."""
        tree = kept_tree(RING)
        for height in range(1, 8):
            self.assert_same(section_area(tree, (0, 0, 8, -height)), (8, 1))
        tree = kept_tree(wedge(point(0, 0, 0), point(1, 1, 1)))
        for height in range(1, 8):
            self.assert_same(section_area(tree, (0, 0, 8, -height)), divide((8 - height, 1), (8, 1)))

    def test_unbounded(self):
        for name, plane in (
                ("full", Z0), ("half", X0), ("half", (0, 0, 1, -1)), ("outside of a cube", Z1), ("quarter", Z0), ("layer", Z1),
                ("layer", X0), ("pillar", (2, 0, 0, -1)), ("cone", (1, 0, 0, -1)), ("cube and half", plane_at(2, 6)),
                ("outside of a shell", plane_at(2, 9))):
            for axis in range(3):
                # Also where the plane is parallel to the axis.
                self.assert_error("Unbounded", lambda: section_area(kept_tree(NOT_BOUNDED[name]), plane, axis=axis))
        # The solid is not bounded, but the patches are.
        self.assert_same(section_area(kept_tree(NOT_BOUNDED["pillar"]), (0, 0, 1, -5)), (1, 1))
        self.assert_same(section_area(kept_tree(NOT_BOUNDED["cone"]), (1, 1, 1, -1)), (1, 2))
        self.assert_same(section_area(kept_tree(NOT_BOUNDED["half"]), Z0), (0, 1))
        self.assert_same(section_area(kept_tree(NOT_BOUNDED["layer"]), plane_at(2, 2), axis=1), (0, 1))


if __name__ == "__main__":
    unittest.main()
