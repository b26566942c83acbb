"""Point 33, and the octahedron and the slab of the interface."""

import itertools
import random
import unittest

from everypoint.expressions import halves_of, is_expression, planes_of, size
from everypoint.keeping import kept_tree
from everypoint.planes import half_through, side_of, value_at
from everypoint.ratios import add, compare, multiply, ratio, subtract
from everypoint.reading import read_expression
from everypoint.shapes import (
    box, copies, hull, join_all, meet_all, octahedron, prism, slab, tetrahedron, wedge)
from everypoint.vectors import dot, minus, vector
from samples import CUBE, EMPTY, FULL, some_point
from support import BIG, X0, Y0, Z0, SpaceTest, plane_at, point

A, B, C = ("half", X0, 1), ("half", Y0, -1), ("half", Z0, 1)
ORIGIN = point(0, 0, 0)
PLACES = [point(*place) for place in itertools.product((-1, 0, (1, 2), 1, 2), repeat=3)]


def meet_of(*halves):
    """The meet of the list of the half nodes."""
    whole = ("half",) + halves[0]
    for half in halves[1:]:
        whole = ("meet", whole, ("half",) + half)
    return whole


def at_least(x, y):
    return compare(x, y) >= 0


class TestLists(SpaceTest):

    def test_meet_and_join(self):
        for together, word, none in ((meet_all, "meet", FULL), (join_all, "join", EMPTY)):
            self.assert_same(together([]), none)
            self.assert_same(together([A]), A)
            self.assert_same(together([A, B]), (word, A, B))
            self.assert_same(together([A, B, C]), (word, (word, A, B), C))
            self.assert_same(together([A, A, FULL, ("outside", B)]), (word, (word, (word, A, A), FULL), ("outside", B)))
            parts = [A, B]
            together(parts)
            self.assertEqual(parts, [A, B])

    def test_long_lists(self):
        self.assertEqual(size(join_all([A] * 40)), 79)


class TestBox(SpaceTest):

    def test_the_halves(self):
        self.assert_same(CUBE, meet_of(
            (X0, 1), (plane_at(0, 1), -1), (Y0, 1), (plane_at(1, 1), -1), (Z0, 1), (plane_at(2, 1), -1)))
        self.assert_same(box(point((-1, 2), 2, (1, 3)), point(0, (5, 2), 9)), meet_of(
            ((2, 0, 0, 1), 1), (X0, -1), (plane_at(1, 2), 1), ((0, 2, 0, -5), -1), ((0, 0, 3, -1), 1),
            (plane_at(2, 9), -1)))
        low, high = point(-BIG, (1, BIG), 0), point((1, BIG), BIG, (1, BIG))
        self.assertEqual(halves_of(box(low, high))[:3], [((1, 0, 0, BIG), 1), ((BIG, 0, 0, -1), -1), ((0, BIG, 0, -1), 1)])

    def test_flat(self):
        for axis in range(3):
            for place in (1, 2, (3, 2), BIG):
                low = [0, 0, 0]
                low[axis] = place
                self.assert_error("Flat", box, point(*low), point(1, 1, 1))
                self.assert_error("Flat", wedge, point(*low), point(1, 1, 1))
            low[axis] = (BIG - 1, BIG)
            self.assertIs(is_expression(box(point(*low), point(1, 1, 1))), True)
            self.assertIs(is_expression(wedge(point(*low), point(1, 1, 1))), True)
        self.assert_error("Flat", box, ORIGIN, ORIGIN)
        self.assert_error("Flat", wedge, point(1, 1, 1), ORIGIN)

    def test_the_points(self):
        for place in PLACES:
            inside = all(0 < part[0] < part[1] for part in place)
            closed = all(0 <= part[0] <= part[1] for part in place)
            wanted = "in" if inside else "on" if closed else "out"
            self.assertEqual(read_expression(CUBE, place), wanted)


class TestWedge(SpaceTest):

    def test_the_halves(self):
        self.assert_same(wedge(ORIGIN, point(1, 1, 1)), meet_of(
            (X0, 1), (Y0, 1), (plane_at(1, 1), -1), (Z0, 1), ((1, 0, 1, -1), -1)))
        # (x - 1)/2 + (z + 1)/3 < 1
        self.assert_same(wedge(point(1, 2, -1), point(3, 7, 2)), meet_of(
            (plane_at(0, 1), 1), (plane_at(1, 2), 1), (plane_at(1, 7), -1), (plane_at(2, -1), 1), ((3, 0, 2, -7), -1)))
        self.assert_same(wedge(point((1, 2), 0, 0), point(1, 1, (1, 3))), meet_of(
            ((2, 0, 0, -1), 1), (Y0, 1), (plane_at(1, 1), -1), (Z0, 1), ((2, 0, 3, -2), -1)))

    def test_the_points(self):
        low, high = point(0, -1, (1, 2)), point(2, 1, 1)
        body = wedge(low, high)
        for place in PLACES:
            x, y, z = place
            share = add(multiply(x, (1, 2)), multiply(subtract(z, (1, 2)), (2, 1)))
            inside = at_least((0, 1), x) or at_least((-1, 1), y) or at_least(y, (1, 1)) or at_least((1, 2), z) \
                or at_least(share, (1, 1))
            self.assertEqual(read_expression(body, place) == "in", not inside, place)


class TestPrism(SpaceTest):

    def test_the_halves(self):
        self.assert_same(prism([(0, 0), (2, 0), (0, 1)], 0, 3), meet_of(
            (Y0, 1), ((1, 2, 0, -2), -1), (X0, 1), (Z0, 1), (plane_at(2, 3), -1)))
        # Integers and ratios, also in one corner.
        self.assert_same(prism([((1, 2), -1), (2, (-1, 1)), (2, (3, 2)), (0, 1)], (-1, 2), 0), meet_of(
            (plane_at(1, -1), 1), (plane_at(0, 2), -1), ((1, -4, 0, 4), 1), ((4, 1, 0, -1), 1),
            ((0, 0, 2, 1), 1), (Z0, -1)))

    def test_it_begins_with_the_first_corner(self):
        corners = [(0, 0), (1, 0), (1, 1), (0, 1)]
        for turn in range(4):
            turned = corners[turn:] + corners[:turn]
            found = halves_of(prism(turned, 0, 1))
            self.assertEqual(found[4:], [(Z0, 1), (plane_at(2, 1), -1)])
            sides = [(Y0, 1), (plane_at(0, 1), -1), (plane_at(1, 1), -1), (X0, 1)]
            self.assertEqual(found[:4], sides[turn:] + sides[:turn])
        self.assert_same(kept_tree(prism(corners, 0, 1)), kept_tree(CUBE))

    def test_eight_corners(self):
        corners = [(3, 1), (1, 3), (-1, 3), (-3, 1), (-3, -1), (-1, -3), (1, -3), (3, -1)]
        body = prism(corners, 0, (1, 2))
        self.assertEqual(len(halves_of(body)), 10)
        self.assertEqual(read_expression(body, point(2, (19, 10), (1, 4))), "in")
        self.assertEqual(read_expression(body, point(2, 2, (1, 4))), "on")
        self.assertEqual(read_expression(body, point(2, (21, 10), (1, 4))), "out")
        self.assertEqual(read_expression(body, point(0, 0, (1, 2))), "on")

    def test_flat(self):
        corners = [(0, 0), (1, 0), (0, 1)]
        for low, high in ((0, 0), (1, 0), ((1, 2), (1, 2)), ((1, 2), (1, 3)), (1, (1, 2)), ((2, 1), 2)):
            self.assert_error("Flat", prism, corners, low, high)
        self.assertIs(is_expression(prism(corners, 0, (1, BIG))), True)
        # Flat stands before BadPolygon.
        self.assert_error("Flat", prism, [(0, 0), (0, 1), (1, 0)], 1, 1)

    def test_bad_polygons(self):
        for corners in (
                [(0, 0), (0, 1), (1, 0)], [(0, 0), (1, 0), (2, 0)], [(0, 0), (1, 0), (1, 0)], [(0, 0), (0, 0), (0, 0)],
                [(0, 0), (1, 1), (1, 0), (0, 1)], [(0, 0), (2, 0), (1, 1), (2, 2), (0, 2)], [(0, 0), (2, 0), (1, 0), (0, 1)],
                [(0, 0), (1, 0), (2, 0), (0, 1)], [(0, 0), (1, 0), (1, 1), (0, 1), (0, 0)], [(0, 1), (1, 1), (1, 0), (0, 0)],
                [(0, 0), (1, 0), (0, 1), (0, 0), (1, 0), (0, 1)], [(0, 0), (1, 0), (1, 0), (0, 1)],
                # A star: it turns left at each corner, but goes around twice.
                [(4, 0), (-3, 2), (1, -4), (1, 4), (-3, -2)],
                # Slightly bent inwards.
                [(0, 0), (1, (1, BIG)), (2, 0), (1, 5)], [((1, 2), 0), ((2, 1), 0), (1, 0)]):
            self.assert_error("BadPolygon", prism, corners, 0, 1)
        self.assertIs(is_expression(prism([(0, 0), (1, (-1, BIG)), (2, 0), (1, 5)], 0, 1)), True)


class TestTetrahedron(SpaceTest):

    def test_the_halves(self):
        p, q, r, s = ORIGIN, point(1, 0, 0), point(0, 1, 0), point(0, 0, 1)
        slanted = ((1, 1, 1, -1), -1)
        self.assert_same(tetrahedron(p, q, r, s), meet_of(slanted, (X0, 1), (Y0, 1), (Z0, 1)))
        self.assert_same(tetrahedron(q, p, r, s), meet_of((X0, 1), slanted, (Y0, 1), (Z0, 1)))
        self.assert_same(tetrahedron(s, r, q, p), meet_of((Z0, 1), (Y0, 1), (X0, 1), slanted))

    def test_some(self):
        chooser = random.Random(1)
        for _ in range(30):
            p, q, r, s = [some_point(chooser, 5) for _ in range(4)]
            try:
                wanted = meet_of(
                    half_through(q, r, s, p), half_through(p, r, s, q), half_through(p, q, s, r), half_through(p, q, r, s))
            except ValueError:
                continue
            self.assert_same(tetrahedron(p, q, r, s), wanted)
            for corner in (p, q, r, s):
                self.assertEqual(read_expression(wanted, corner), "on")

    def test_flat(self):
        p, q, r = point(0, 0, 1), point(1, 0, 1), point(0, 1, 1)
        for corners in (
                (p, q, r, point(5, 7, 1)), (p, p, q, r), (p, q, r, r), (p, p, p, p), (p, q, point(2, 0, 1), point(0, 0, 9)),
                (point(0, 0, 9), p, q, point(-1, 0, 1)), (p, q, point(2, 0, 1), point(3, 0, 1))):
            for order in itertools.permutations(corners):
                self.assert_error("Flat", tetrahedron, *order)
        self.assertIs(is_expression(tetrahedron(p, q, r, point(5, 7, (BIG + 1, BIG)))), True)


def hull_by_definition(points):
    """Point 33, tried for each three of the points by a solving of its own."""
    halves = set()
    for p, q, r in itertools.combinations(points, 3):
        for inside in points:
            try:
                plane, side = half_through(p, q, r, inside)
            except ValueError:
                continue
            if all(side_of(plane, other) * side >= 0 for other in points):
                halves.add((plane, side))
    return sorted(halves)


class TestHull(SpaceTest):

    def test_the_halves(self):
        corners = [ORIGIN, point(1, 0, 0), point(0, 1, 0), point(0, 0, 1)]
        wanted = meet_of((Z0, 1), (Y0, 1), (X0, 1), ((1, 1, 1, -1), -1))
        for order in itertools.permutations(corners):
            self.assert_same(hull(list(order)), wanted)
        # A point inside, and equal points.
        self.assert_same(hull(corners + [point((1, 4), (1, 4), (1, 4))]), wanted)
        self.assert_same(hull(corners + corners), wanted)
        self.assert_same(hull([ORIGIN, ORIGIN] + corners + [point((1, 2), 0, 0)]), wanted)

    def test_many_points_on_one_plane(self):
        corners = [point(*place) for place in itertools.product((0, 1), repeat=3)]
        self.assert_same(hull(corners), meet_of(
            (plane_at(2, 1), -1), (Z0, 1), (plane_at(1, 1), -1), (Y0, 1), (plane_at(0, 1), -1), (X0, 1)))
        self.assert_same(kept_tree(hull(corners)), kept_tree(CUBE))
        # Seven points on one plane, some of them in line, and one off it.
        flat = [point(0, 0, 0), point(2, 0, 0), point(0, 2, 0), point(1, 0, 0), point(1, 1, 0), point(0, 1, 0), point(2, 2, 0)]
        self.assert_same(hull(flat + [point(1, 1, 3)]), meet_of(
            (Z0, 1), ((0, 3, -1, 0), 1), ((0, 3, 1, -6), -1), ((3, 0, -1, 0), 1), ((3, 0, 1, -6), -1)))

    def test_some(self):
        chooser = random.Random(2)
        most = 0
        for _ in range(60):
            points = [some_point(chooser, 3, 2) for _ in range(chooser.randint(4, 8))]
            halves = hull_by_definition(points)
            if halves:
                self.assert_same(hull(points), meet_of(*halves))
                most = max(most, len(halves))
            else:
                self.assert_error("Flat", hull, points)
        self.assertGreaterEqual(most, 9)

    def test_twelve_faces(self):
        """Points on a bent curve: every face is a triangle."""
        points = [point(k, k * k, k ** 3) for k in range(-3, 5)]
        body = hull(points)
        self.assertEqual(len(halves_of(body)), 12)
        self.assertEqual(len(planes_of(body)), 12)
        for corner in points:
            self.assertEqual(read_expression(body, corner), "on")
        self.assertEqual(read_expression(body, point(0, 1, 0)), "in")

    def test_flat(self):
        plane = [point(x, y, x + y) for x, y in ((0, 0), (1, 0), (0, 1), (5, 5), (2, 3), (0, 0), (-1, 4), (1, 1))]
        for points in (
                plane, plane[:4], [ORIGIN] * 4, [ORIGIN] * 8, [ORIGIN, point(1, 1, 1)] * 2, [point(k, k, 0) for k in range(6)],
                [ORIGIN, point(1, 0, 0), point(0, 1, 0), ORIGIN]):
            self.assert_error("Flat", hull, points)
        self.assertIs(is_expression(hull(plane[:7] + [point(1, 1, (2 * BIG + 1, BIG))])), True)

    def test_the_list_stays(self):
        points = [point(0, 0, 1), ORIGIN, point(1, 0, 0), point(0, 1, 0), ORIGIN]
        given = list(points)
        hull(points)
        self.assertEqual(points, given)


class TestCopies(SpaceTest):

    def shift(self, *parts):
        return ((point(1, 0, 0), point(0, 1, 0), point(0, 0, 1)), point(*parts))

    def test_copies(self):
        step = point(1, (-1, 2), 0)
        self.assert_same(copies(A, 1, step=step), ("move", self.shift(0, 0, 0), A))
        self.assert_same(copies(A, 2, step=step), (
            "join", ("move", self.shift(0, 0, 0), A), ("move", self.shift(1, (-1, 2), 0), A)))
        self.assert_same(copies(A, 3, step=step), (
            "join", ("join", ("move", self.shift(0, 0, 0), A), ("move", self.shift(1, (-1, 2), 0), A)),
            ("move", self.shift(2, -1, 0), A)))
        self.assert_same(copies(EMPTY, 6, step=ORIGIN)[1][1][1][1], (
            "join", ("move", self.shift(0, 0, 0), EMPTY), ("move", self.shift(0, 0, 0), EMPTY)))
        self.assertEqual(size(copies(CUBE, 5, step=step)), 4 + 5 * 12)

    def test_the_step_is_told_by_its_name(self):
        with self.assertRaises(TypeError):
            copies(A, 2, ORIGIN)
        self.assert_same(copies(step=ORIGIN, count=1, expression=A), copies(A, 1, step=ORIGIN))

    def test_the_points(self):
        row = copies(CUBE, 3, step=point(2, 0, 0))
        for x, wanted in ((-1, "out"), ((1, 2), "in"), ((3, 2), "out"), ((5, 2), "in"), ((9, 2), "in"), ((13, 2), "out")):
            self.assertEqual(read_expression(row, point(x, (1, 2), (1, 2))), wanted)


class TestOctahedron(SpaceTest):

    def test_the_halves(self):
        self.assert_same(octahedron(ORIGIN, (1, 1)), meet_of(
            ((1, 1, 1, 1), 1), ((1, 1, -1, 1), 1), ((1, -1, 1, 1), 1), ((1, -1, -1, 1), 1),
            ((1, -1, -1, -1), -1), ((1, -1, 1, -1), -1), ((1, 1, -1, -1), -1), ((1, 1, 1, -1), -1)))
        self.assert_same(
            halves_of(octahedron(point(1, (1, 2), -3), (2, 3)))[::7],
            [((6, 6, 6, 13), 1), ((6, 6, 6, 5), -1)])

    def test_the_points(self):
        centre, reach = point(1, 0, (-1, 2)), (3, 2)
        body = octahedron(centre, reach)
        for place in PLACES + [point(1, 0, 1), point((5, 2), 0, (-1, 2)), point(1, (1, 2), (1, 2))]:
            away = (0, 1)
            for part in minus(place, centre):
                away = add(away, (abs(part[0]), part[1]))
            wanted = ("in", "on", "out")[compare(away, reach) + 1]
            self.assertEqual(read_expression(body, place), wanted)

    def test_flat(self):
        for reach in ((0, 1), (-1, 1), (-1, BIG), (-5, 3)):
            self.assert_error("Flat", octahedron, ORIGIN, reach)
        self.assertIs(is_expression(octahedron(ORIGIN, (1, BIG))), True)


class TestSlab(SpaceTest):

    def test_the_halves(self):
        self.assert_same(slab(Z0, (0, 0, 1, -2)), meet_of((Z0, 1), ((0, 0, 1, -2), -1)))
        self.assert_same(slab((0, 0, 1, -2), Z0), meet_of(((0, 0, 1, -2), -1), (Z0, 1)))
        # Parallel planes with unlike normals.
        self.assert_same(slab((0, 0, 2, 1), Z0), meet_of(((0, 0, 2, 1), 1), (Z0, -1)))
        self.assert_same(slab((1, 2, 3, 4), (2, 4, 6, 7)), meet_of(((1, 2, 3, 4), 1), ((2, 4, 6, 7), -1)))
        self.assert_same(slab((0, 3, -5, -1), (0, 3, -5, 1)), meet_of(((0, 3, -5, -1), -1), ((0, 3, -5, 1), 1)))

    def test_the_points_lie_between(self):
        chooser = random.Random(3)
        for _ in range(20):
            normal = [chooser.randint(1, 5), chooser.randint(-5, 5), 1]
            first, second = chooser.sample(range(-9, 9), 2)
            plane, other = tuple(normal) + (first,), tuple(normal) + (second,)
            place = some_point(chooser, 6)
            height = dot(vector(*normal), place)
            between = compare(height, ratio(-max(first, second))) > 0 and compare(height, ratio(-min(first, second))) < 0
            touched = (0, 1) in (value_at(plane, place), value_at(other, place))
            wanted = "on" if touched else "in" if between else "out"
            self.assertEqual(read_expression(slab(plane, other), place), wanted)

    def test_flat(self):
        for plane, other in ((Z0, Z0), (Z0, Y0), (X0, (1, 0, 1, 5)), ((1, 2, 3, 4), (1, 2, 4, 4)), ((0, 0, 2, 1), (0, 0, 2, 1))):
            self.assert_error("Flat", slab, plane, other)
            self.assert_error("Flat", slab, other, plane)


if __name__ == "__main__":
    unittest.main()
