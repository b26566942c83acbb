"""Points 35 to 39."""

import itertools
import random
import unittest

from everypoint.expressions import halves_of
from everypoint.keeping import kept_tree
from everypoint.moves import mirror_axis, moved_half, moved_point, quarter_turn, shift_by
from everypoint.planes import meeting_point, normal_of
from everypoint.polygons import (
    area_vector, cell_corners, cell_facets, cell_volume, far_direction, far_ray, is_bounded, is_bounded_cell,
    is_bounded_patch, patch_corners)
from everypoint.ratios import add, divide, multiply, sign
from everypoint.shapes import hull, octahedron, prism, tetrahedron, wedge
from everypoint.systems import closed, common_point, dimension, has_point, holds
from everypoint.trees import cells, in_cells, out_cells, read_tree
from everypoint.vectors import (
    cross, dot, in_line, is_vector, is_zero, minus, plus, scaled, sort_points, triple)
from everypoint.walls import walls
from samples import BOUNDED, CUBE, NOT_BOUNDED, some_body, some_plane, some_planes
from support import X0, Y0, Z0, SpaceTest, lists_in, plane_at, point

CUBE_CELL = halves_of(CUBE)
X1, Y1, Z1 = plane_at(0, 1), plane_at(1, 1), plane_at(2, 1)
SLANTED = (1, 1, 1, -1)
CORNER_CELL = [(X0, 1), (Y0, 1), (Z0, 1), (SLANTED, -1)]
CUBE_CORNERS = [point(*place) for place in itertools.product((0, 1), repeat=3)]
OPEN_CELLS = [
    [], [(X0, 1)], [(Z0, -1)], [(X0, 1), (X1, -1)], [(X0, 1), (X1, -1), (X1, -1)], [(X0, 1), (Y0, 1), (Z0, 1)],
    [(X0, 1), (X1, -1), (Y0, 1), (Y1, -1)], [(X0, 1), (X1, -1), (Y0, 1), (Y1, -1), (Z0, 1)],
    [((1, 1, 0, 0), 1), ((1, -1, 0, 0), -1), ((0, 0, 1, -4), -1)], [((1, 2, 3, 4), -1), ((1, 2, 3, 9), 1)],
    CORNER_CELL[:3] + [(SLANTED, 1)], [((1, 0, -1, 0), 1), ((1, 0, 1, 0), -1), (Y0, 1), (Y1, -1)],
    [((1, 1, 0, 0), 1), ((1, 1, 0, -1), -1), ((1, -1, 0, 0), 1), ((1, -1, 0, -1), -1)]]


def random_cells(seed, count):
    """Cells: lists of strict conditions that have a common point, some of them bounded."""
    chooser = random.Random(seed)
    found = []
    while len(found) < count:
        cell = [(plane, chooser.choice((1, -1))) for plane in some_planes(chooser, chooser.randint(1, 8), 2)]
        if chooser.random() < 0.5:
            cell += [(X0, 1), (plane_at(0, 2), -1), (Y0, 1), (plane_at(1, 2), -1)]
        if chooser.random() < 0.3:
            cell.append(chooser.choice(cell))
        if has_point(cell) and all((plane, -side) not in cell for plane, side in cell):
            found.append(cell)
    return found


def random_patches(seed, count):
    chooser = random.Random(seed)
    found = []
    for cell in random_cells(seed, 4 * count):
        plane = some_plane(chooser, 2)
        bounds = [condition for condition in cell if condition[0] != plane]
        if has_point(bounds + [(plane, 0)]):
            found.append((plane, bounds))
    return found[:count]


def is_far(cell, direction):
    return is_vector(direction) and not is_zero(direction) and all(
        sign(multiply((side, 1), dot(normal_of(plane), direction))) >= 0 for plane, side in cell)


def corners_by_definition(cell):
    planes = [plane for plane, side in cell]
    points = [meeting_point(*three) for three in itertools.combinations(planes, 3)]
    return sort_points([p for p in points if p is not None and holds(closed(cell), p)])


def patch_corners_by_definition(plane, bounds):
    planes = [other for other, side in bounds]
    points = [meeting_point(plane, *two) for two in itertools.combinations(planes, 2)]
    return sort_points([p for p in points if p is not None and holds(closed(bounds), p)])


def spread(cell):
    """Points of the cell or patch far away along each axis, if there are some: then it is not bounded."""
    return [
        place for axis in range(3) for place in (10 ** 9, -10 ** 9)
        if has_point(cell + [(plane_at(axis, place), 1 if place > 0 else -1)])]


class TestCells(SpaceTest):

    def test_known_cells(self):
        for cell in OPEN_CELLS:
            self.assertTrue(has_point(cell))
            self.assertIs(is_bounded_cell(cell), False)
            self.assertIs(is_far(cell, far_direction(cell)), True, cell)
        for cell in (CUBE_CELL, CORNER_CELL, CUBE_CELL + CUBE_CELL, CUBE_CELL + [(SLANTED, 1)], halves_of(octahedron(
                point(0, 0, 0), (1, 3))), CUBE_CELL + [(plane_at(0, 100), -1), (plane_at(1, -100), 1)]):
            self.assertIs(is_bounded_cell(cell), True)
            self.assertIs(far_direction(cell), None)

    def test_far_directions_by_their_definition(self):
        told = {True: 0, False: 0}
        for cell in random_cells(1, 200):
            direction = far_direction(cell)
            self.assertIs(is_bounded_cell(cell), direction is None)
            self.assertEqual(direction is None, spread(cell) == [], cell)
            told[direction is None] += 1
            if direction is not None:
                self.assertIs(is_far(cell, direction), True, (cell, direction))
                start = common_point(cell)[1]
                for k in (1, 10, 10 ** 9):
                    self.assertIs(holds(cell, plus(start, scaled((k, 1), direction))), True)
        self.assertGreater(min(told.values()), 30)

    def test_far_cells_with_large_numbers(self):
        big = 10 ** 39
        cell = [((big, 1, 0, -big), 1), ((big + 1, 1, 0, 5), -1), ((1, big, big, 0), 1), ((0, 1, 0, -big), -1)]
        self.assertIs(is_far(cell, far_direction(cell)), True)

    def test_corners(self):
        self.assert_same(cell_corners(CUBE_CELL), CUBE_CORNERS)
        self.assert_same(cell_corners(list(reversed(CUBE_CELL)) + CUBE_CELL), CUBE_CORNERS)
        self.assert_same(cell_corners(CORNER_CELL), [point(0, 0, 0), point(0, 0, 1), point(0, 1, 0), point(1, 0, 0)])
        # A plane that only touches in a corner, an edge, or not at all, cuts off no corner.
        for touching in (((1, 1, 1, 0), 1), ((1, 1, 0, 0), 1), ((1, 1, 1, -3), -1), ((1, 1, 0, -9), -1), (plane_at(2, -1), 1)):
            self.assert_same(cell_corners(CUBE_CELL + [touching]), CUBE_CORNERS)
        self.assert_same(cell_corners(CUBE_CELL + [(SLANTED, 1)]), CUBE_CORNERS[1:])
        self.assert_same(cell_corners(halves_of(octahedron(point(1, 0, 0), (1, 2)))), [
            point((1, 2), 0, 0), point(1, (-1, 2), 0), point(1, 0, (-1, 2)), point(1, 0, (1, 2)), point(1, (1, 2), 0),
            point((3, 2), 0, 0)])

    def test_corners_by_their_definition(self):
        bounded = 0
        for cell in random_cells(2, 150):
            if is_bounded_cell(cell):
                bounded += 1
                corners = cell_corners(cell)
                self.assert_same(corners, corners_by_definition(cell))
                self.assertGreaterEqual(len(corners), 4)
            else:
                self.assert_error("Unbounded", cell_corners, cell)
        self.assertGreater(bounded, 20)

    def test_unbounded(self):
        for cell in OPEN_CELLS:
            for told in (cell_corners, cell_facets, cell_volume):
                self.assert_error("Unbounded", told, cell)


class TestPatches(SpaceTest):

    def test_known_polygons(self):
        square = [(X0, 1), (X1, -1), (Y0, 1), (Y1, -1)]
        self.assert_same(patch_corners(Z0, square), [point(0, 0, 0), point(1, 0, 0), point(1, 1, 0), point(0, 1, 0)])
        self.assert_same(patch_corners((0, 0, 2, 1), square[::-1]), [
            point(0, 0, (-1, 2)), point(1, 0, (-1, 2)), point(1, 1, (-1, 2)), point(0, 1, (-1, 2))])
        # Seen from the front of x = 0, that is from the side x > 0: y goes to the right and z upwards.
        self.assert_same(patch_corners(X0, [(Y0, 1), (Y1, -1), (Z0, 1), (Z1, -1)]), [
            point(0, 0, 0), point(0, 1, 0), point(0, 1, 1), point(0, 0, 1)])
        # Seen from the front of y = 0: z goes to the right and x upwards.
        self.assert_same(patch_corners(Y0, [(X0, 1), (X1, -1), (Z0, 1), (Z1, -1)]), [
            point(0, 0, 0), point(0, 0, 1), point(1, 0, 1), point(1, 0, 0)])
        self.assert_same(patch_corners(SLANTED, CORNER_CELL[:3]), [point(0, 0, 1), point(1, 0, 0), point(0, 1, 0)])

    def test_equal_conditions_change_nothing(self):
        square = [(X0, 1), (X1, -1), (Y0, 1), (Y1, -1)]
        wanted = patch_corners(Z0, square)
        self.assert_same(patch_corners(Z0, square + square), wanted)
        # Other planes that cross the plane of the patch in the same lines, or only touch the patch, or are parallel.
        same_lines = [((1, 0, 1, 0), 1), ((1, 0, -5, -1), -1), ((1, 1, 0, 0), 1), ((1, 1, 0, -2), -1), (plane_at(2, -3), 1)]
        self.assert_same(patch_corners(Z0, square + same_lines), wanted)

    def test_polygons_by_their_definition(self):
        bounded = 0
        for plane, bounds in random_patches(3, 200):
            self.assertIs(is_bounded_patch(plane, bounds), spread(bounds + [(plane, 0)]) == [])
            if not is_bounded_patch(plane, bounds):
                self.assert_error("Unbounded", patch_corners, plane, bounds)
                continue
            bounded += 1
            corners = patch_corners(plane, bounds)
            self.assertIs(type(corners), list)
            self.assertGreaterEqual(len(corners), 3)
            self.assert_same(sort_points(corners), patch_corners_by_definition(plane, bounds))
            self.assertEqual(len(sort_points(corners)), len(corners))
            self.assertEqual(corners[0], sort_points(corners)[0])
            self.assert_goes_around_once(normal_of(plane), corners)
        self.assertGreater(bounded, 60)

    def assert_goes_around_once(self, normal, corners):
        """Each three corners in the order of the list turn to the left: so the list goes around exactly once."""
        for u, v, w in itertools.combinations(corners, 3):
            self.assertEqual(sign(triple(normal, minus(v, u), minus(w, v))), 1)
            self.assertIs(in_line(u, v, w), False)

    def test_known_patches_that_are_not_bounded(self):
        for plane, bounds in (
                (Z0, []), (Z0, [(X0, 1)]), (Z0, [(X0, 1), (X1, -1)]), (Z0, [(X0, 1), (Y0, 1)]), (Z0, [(Z1, -1), (plane_at(2, -1), 1)]),
                (Z0, [(X0, 1), (X1, -1), (Y0, 1)]), (SLANTED, [(X0, 1), (Y0, 1)]), (X0, [((0, 1, 1, 0), 1), ((0, 1, -1, 0), -1)]),
                (Z0, [(X0, 1), (X1, -1), (Z1, -1), ((1, 0, 1, 5), 1)])):
            self.assertTrue(has_point(bounds + [(plane, 0)]))
            self.assertIs(is_bounded_patch(plane, bounds), False)
            self.assert_error("Unbounded", patch_corners, plane, bounds)
        # Bounded, though the bounds alone are not.
        self.assertIs(is_bounded_patch(SLANTED, CORNER_CELL[:3]), True)
        self.assertIs(is_bounded_patch(Z0, [((1, 1, 5, 0), 1), ((1, -1, 7, 0), 1), (X1, -1)]), True)

    def test_area_vectors(self):
        self.assert_same(area_vector([]), point(0, 0, 0))
        self.assert_same(area_vector([point(1, 2, 3)]), point(0, 0, 0))
        self.assert_same(area_vector([point(1, 2, 3), point(4, 5, 6)]), point(0, 0, 0))
        square = [point(0, 0, 5), point(1, 0, 5), point(1, 1, 5), point(0, 1, 5)]
        self.assert_same(area_vector(square), point(0, 0, 1))
        self.assert_same(area_vector(square[::-1]), point(0, 0, -1))
        self.assert_same(area_vector(square[2:] + square[:2]), point(0, 0, 1))
        self.assert_same(area_vector([point(1, 0, 0), point(0, 1, 0), point(0, 0, 1)]), ((1, 2), (1, 2), (1, 2)))
        self.assert_same(area_vector([point(0, 0, 0), point(3, 0, 0), point(0, (1, 2), 0)]), ((0, 1), (0, 1), (3, 4)))
        # Any list of points, also not flat and with equal points.
        self.assert_same(area_vector(square[:2] + square[:2]), point(0, 0, 0))

    def test_area_vectors_are_normals(self):
        for plane, bounds in random_patches(4, 80):
            if is_bounded_patch(plane, bounds):
                corners = patch_corners(plane, bounds)
                area = area_vector(corners)
                self.assertIs(is_zero(cross(area, normal_of(plane))), True)
                self.assertEqual(sign(dot(area, normal_of(plane))), 1)
                # The triangles that a corner makes up with the others.
                total = point(0, 0, 0)
                for p, q in zip(corners[1:], corners[2:]):
                    total = plus(total, scaled((1, 2), cross(minus(p, corners[0]), minus(q, corners[0]))))
                self.assert_same(area, total)


class TestFacets(SpaceTest):

    def test_the_cube(self):
        found = cell_facets(CUBE_CELL)
        self.assert_same([half for half, corners in found], [
            ((0, 0, 1, -1), -1), (Z0, 1), ((0, 1, 0, -1), -1), (Y0, 1), ((1, 0, 0, -1), -1), (X0, 1)])
        self.assert_same(found[0], (((0, 0, 1, -1), -1), [point(0, 0, 1), point(1, 0, 1), point(1, 1, 1), point(0, 1, 1)]))
        # Seen from below, the other way around, with the same first corner.
        self.assert_same(found[1], ((Z0, 1), [point(0, 0, 0), point(0, 1, 0), point(1, 1, 0), point(1, 0, 0)]))
        self.assert_same(cell_facets(CUBE_CELL[::-1] + CUBE_CELL), found)
        self.assert_same(cell_volume(CUBE_CELL), (1, 1))

    def test_planes_that_touch_have_no_facet(self):
        found = cell_facets(CUBE_CELL)
        for touching in (((1, 1, 1, 0), 1), ((1, 1, 0, 0), 1), ((1, 1, 1, -3), -1), ((1, 1, 0, -9), -1), (plane_at(2, -1), 1),
                         ((1, 0, -1, -1), -1)):
            self.assert_same(cell_facets(CUBE_CELL + [touching]), found)
            self.assert_same(cell_facets([touching] + CUBE_CELL), found)
            self.assert_same(cell_volume([touching] + CUBE_CELL), (1, 1))

    def test_facets_by_their_definition(self):
        bounded = 0
        for cell in random_cells(5, 150):
            if not is_bounded_cell(cell):
                self.assert_error("Unbounded", cell_facets, cell)
                continue
            bounded += 1
            wanted = []
            for plane, side in sorted(set(cell)):
                bounds = [condition for condition in cell if condition[0] != plane]
                if has_point([(plane, 0)] + bounds):
                    polygon = patch_corners(plane, bounds)
                    wanted.append(((plane, side), polygon if side == -1 else polygon[:1] + polygon[:0:-1]))
            facets = cell_facets(cell)
            self.assert_same(facets, wanted)
            for (plane, side), corners in facets:
                self.assertEqual(corners[0], sort_points(corners)[0])
                self.assertEqual(sign(dot(area_vector(corners), normal_of(plane))), -side)
            self.assert_closed(facets)
        self.assertGreater(bounded, 20)

    def assert_closed(self, facets):
        """The sides of the facets cancel, and so do the area vectors."""
        edges = [
            edge for half, corners in facets for edge in zip(corners, corners[1:] + corners[:1])]
        self.assertEqual(len(set(edges)), len(edges))
        self.assertEqual({(q, p) for p, q in edges}, set(edges))
        total = point(0, 0, 0)
        for half, corners in facets:
            total = plus(total, area_vector(corners))
        self.assert_same(total, point(0, 0, 0))

    def test_volumes(self):
        p, q, r, s = point(0, 0, 0), point(2, 1, 0), point((1, 2), 3, 1), point(-1, 1, 4)
        for expression, volume in (
                (CUBE, (1, 1)), (wedge(point(0, 0, 0), point(2, 3, 5)), (15, 1)), (octahedron(point(1, 2, 3), (3, 2)), (9, 2)),
                (tetrahedron(p, q, r, s), divide(triple(q, r, s), (6, 1))),
                (prism([(3, 1), (1, 3), (-1, 3), (-3, 1), (-3, -1), (-1, -3), (1, -3), (3, -1)], 0, (1, 2)), (14, 1)),
                (hull([point(0, 0, 0), point(2, 0, 0), point(0, 2, 0), point(2, 2, 0), point(1, 1, 3)]), (4, 1))):
            self.assert_same(cell_volume(halves_of(expression)), volume)
        for move in (shift_by(point((1, 3), -5, 7)), quarter_turn(1), mirror_axis(0)):
            cell = [moved_half(move, half) for half in CORNER_CELL]
            self.assert_same(cell_volume(cell), (1, 6))
            self.assert_same(cell_corners(cell), sort_points([moved_point(move, p) for p in cell_corners(CORNER_CELL)]))

    def test_the_volume_of_two_parts_is_that_of_the_whole(self):
        chooser = random.Random(6)
        cut = 0
        while cut < 30:
            cell = halves_of(some_body(chooser))
            plane = some_plane(chooser, 3)
            if has_point(cell + [(plane, 0)]) and plane not in [other for other, side in cell]:
                cut += 1
                self.assert_same(
                    add(cell_volume(cell + [(plane, 1)]), cell_volume([(plane, -1)] + cell)), cell_volume(cell))
                self.assertEqual(sign(cell_volume(cell)), 1)

    def test_a_cell_of_forty_conditions(self):
        cell = CUBE_CELL + [((1, k, 0, -2 - k), -1) for k in range(2, 30)]
        self.assert_same(cell_volume(cell), (1, 1))
        cell = CUBE_CELL + [((1, k, k * k, -(k * k + k)), -1) for k in range(2, 36)]
        self.assertEqual(len(cell), 40)
        self.assertGreater(len(cell_facets(cell)), 6)
        self.assert_closed(cell_facets(cell))

    def test_lists_are_new(self):
        for told, given in ((cell_facets, CUBE_CELL), (cell_corners, CUBE_CELL)):
            found = told(given)
            lists = lists_in(found)
            self.assertEqual(len({id(member) for member in lists}), len(lists))
            expected = repr(found)
            for member in lists:
                member.append("changed")
            self.assertEqual(repr(told(given)), expected)


class TestSolids(SpaceTest):

    def test_bounded_solids(self):
        for expression in BOUNDED.values():
            tree = kept_tree(expression)
            self.assertIs(is_bounded(tree), True)
            self.assertIs(far_ray(tree), None)
            for cell in in_cells(tree):
                self.assertIs(is_bounded_cell(cell), True)
        self.assertIs(is_bounded("out"), True)
        self.assertIs(far_ray("out"), None)

    def test_others(self):
        others = [kept_tree(expression) for expression in NOT_BOUNDED.values()]
        others += [kept_tree(("outside", expression)) for expression in BOUNDED.values()]
        for tree in others:
            self.assertIs(is_bounded(tree), False)
            origin, direction = far_ray(tree)
            self.assertIs(is_vector(origin) and is_vector(direction), True)
            self.assertIs(is_zero(direction), False)
            for t in ((0, 1), (1, 7), (1, 2), (1, 1), (3, 1), (100, 3), (10 ** 12, 1)):
                self.assertEqual(read_tree(tree, plus(origin, scaled(t, direction))), "in")
            # No plane of the tree lies ahead: so all of the ray is in one cell.
            self.assertTrue(any(holds(cell, origin) and is_far(cell, direction) for cell in in_cells(tree)))

    def test_cells_of_walls_share_polygons(self):
        """A wall is a patch; where it is bounded, its polygon lies in the closed forms of both cells."""
        tree = kept_tree(BOUNDED["ring"])
        told = cells(tree)
        found = 0
        for plane, bounds, front, back in walls(tree):
            if is_bounded_patch(plane, bounds):
                found += 1
                for corner in patch_corners(plane, bounds):
                    self.assertIs(holds(closed(told[front][0] + told[back][0]), corner), True)
                self.assertEqual(dimension(closed(told[front][0] + told[back][0])), 2)
        self.assertGreater(found, 4)
        self.assertEqual(len(in_cells(tree)) + len(out_cells(tree)), len(told))


if __name__ == "__main__":
    unittest.main()
