"""Points 47 and 48, with the rays of point 39, and point 66 for spans."""

import random
import unittest

from everypoint.expressions import planes_of, truth, without_moves
from everypoint.faces import faces, faces_at
from everypoint.keeping import inner_point, join_trees, keep, kept_tree, meet_trees, move_tree, outside_tree
from everypoint.moves import make_move, mirror_axis, moved_half, moved_point, moved_vector, quarter_turn, scale_by, shift_by
from everypoint.planes import side_of
from everypoint.polygons import far_ray
from everypoint.ratios import add, compare, is_ratio, middle, subtract
from everypoint.rays import first_hit, in_length, is_ray, ray_point, read_spans, spans
from everypoint.reading import read_expression
from everypoint.shapes import box, octahedron
from everypoint.systems import sign_rows
from everypoint.trees import cell_points, read_tree, tree_planes
from everypoint.vectors import blend, minus, scaled, vector
from samples import (
    BOUNDED, CUBE, CUBES_TREE, EMPTY, FULL, GEM, NOT_BOUNDED, RING, SHELL, TWO_APART, TWO_IN_A_CORNER, TWO_IN_A_FACE,
    TWO_IN_AN_EDGE, points_of, some_bodies, some_expression, some_kept_trees, some_planes, some_point)
from support import BIG, X0, Y0, Z0, SpaceTest, kinds_of, lists_in, plane_at, point

X1, Y1, Z1 = plane_at(0, 1), plane_at(1, 1), plane_at(2, 1)
CUBE_TREE, GEM_TREE, RING_TREE, SHELL_TREE = kept_tree(CUBE), kept_tree(GEM), kept_tree(RING), kept_tree(SHELL)
HALF = (1, 2)
ZERO = point(0, 0, 0)
MOVES = [
    shift_by(point((1, 2), 0, -3)), scale_by(point(2, (-1, 3), 1)), mirror_axis(0), quarter_turn(1),
    make_move([[1, 2, 0], [0, 1, (1, 2)], [1, 0, -2]], [1, -1, 0])]


def ray(origin, direction):
    return (point(*origin), point(*direction))


def at(t, *readings):
    return ((t, 1) if isinstance(t, int) else t,) + readings


def some_rays(expression, tree, seed, count=6):
    """Rays in all sorts of places: from point to point, within planes, through corners, and anywhere."""
    chooser = random.Random(seed)
    places = points_of(expression, seed, 8) + cell_points(tree)[:4]
    found = []
    while len(found) < count:
        p, q = chooser.choice(places), chooser.choice(places)
        direction = minus(q, p) if chooser.random() < 0.7 else some_point(chooser)
        if direction != ZERO:
            found.append((p, direction))
    return found


def solids(seed, count):
    """Tuples (expression, kept tree) of bounded and other solids."""
    chooser = random.Random(seed)
    made = [(expression, kept_tree(expression)) for expression in list(BOUNDED.values()) + list(NOT_BOUNDED.values())]
    made += some_kept_trees(
        chooser, lambda: some_expression(chooser, some_planes(chooser, chooser.randint(2, 6)), chooser.randint(3, 9)), count)
    return made + [(EMPTY, "out"), (FULL, "in")]


def halves_by_cones(expression, place):
    """The halves of point 48 at a place: planes that two cones there share, with the side of the one that is "in"."""
    bare = without_moves(expression)
    sides = {plane: side_of(plane, place) for plane in planes_of(bare)}
    through = [plane for plane in sides if sides[plane] == 0]
    told = {signs: truth(bare, {**sides, **dict(zip(through, signs))}) for signs in sign_rows(through)}
    found = set()
    for signs, inside in told.items():
        for k, plane in enumerate(through):
            other = signs[:k] + (-signs[k],) + signs[k + 1:]
            if inside and told.get(other) is False:
                found.add((plane, signs[k]))
    return sorted(found)


class TestRays(SpaceTest):

    def test_is_ray(self):
        good = ray((0, (1, 2), 0), (1, 0, -1))
        self.assert_takes_plain_values(is_ray, right=[(((1, 1), (0, 1), (0, 1)), ((1, 1), (0, 1), (0, 1)))])
        for value, wanted in (
                (good, True), ((good[0], ZERO), True), ((ZERO, ZERO), True), (list(good), False), (good + good, False),
                ((good[0],), False), ((), False), ((good[0], list(good[1])), False), ((good[0], None), False),
                ((good[0], (1, 0, 0)), False), (((True, 1), (0, 1), (0, 1)), False), ((good[0], ((2, 4), (0, 1), (0, 1))), False),
                ((good[0], ((1, True), (0, 1), (0, 1))), False), ((good[0], ((1, 1), (0, 1))), False)):
            self.assertIs(is_ray(value), wanted, value)

    def test_ray_point(self):
        told = ray((1, 2, 3), (2, 0, (-1, 2)))
        for t, place in (((0, 1), (1, 2, 3)), ((1, 1), (3, 2, (5, 2))), ((-2, 1), (-3, 2, 4)), ((1, 3), ((5, 3), 2, (17, 6)))):
            self.assert_same(ray_point(told, t), point(*place))
        self.assert_same(ray_point((told[0], ZERO), (7, 2)), told[0])


class TestSpans(SpaceTest):

    def assert_spans(self, tree, told, *listed):
        self.assert_same(spans(tree, told), list(listed))

    def test_empty_and_full(self):
        self.assert_spans("out", ray((1, 2, 3), (0, 0, 1)), at(0, "out", "out"))
        self.assert_spans("in", ray((1, 2, 3), (0, (1, 2), 1)), at(0, "in", "in"))

    def test_from_outside(self):
        self.assert_spans(
            CUBE_TREE, ray((HALF, HALF, 5), (0, 0, -1)), at(0, "out", "out"), at(4, "on", "in"), at(5, "on", "out"))
        self.assert_spans(
            CUBE_TREE, ray((HALF, HALF, 5), (0, 0, -3)), at(0, "out", "out"), at((4, 3), "on", "in"), at((5, 3), "on", "out"))
        self.assert_spans(CUBE_TREE, ray((HALF, HALF, 5), (0, 0, 1)), at(0, "out", "out"))
        self.assert_spans(CUBE_TREE, ray((5, 5, 5), (1, -1, 0)), at(0, "out", "out"))

    def test_from_inside(self):
        self.assert_spans(CUBE_TREE, ray((HALF, HALF, HALF), (1, 0, 0)), at(0, "in", "in"), at((1, 2), "on", "out"))
        self.assert_spans(outside_tree(CUBE_TREE), ray((HALF, HALF, 2), (0, 0, 1)), at(0, "in", "in"))
        self.assert_spans(
            outside_tree(CUBE_TREE), ray((HALF, HALF, 2), (0, 0, -1)), at(0, "in", "in"), at(1, "on", "out"), at(2, "on", "in"))

    def test_from_the_frontier(self):
        self.assert_spans(CUBE_TREE, ray((HALF, HALF, 0), (0, 0, 1)), at(0, "on", "in"), at(1, "on", "out"))
        self.assert_spans(CUBE_TREE, ray((HALF, HALF, 1), (0, 0, 1)), at(0, "on", "out"))
        self.assert_spans(CUBE_TREE, ray((0, 0, 0), (-1, 1, 1)), at(0, "on", "out"))
        self.assert_spans(CUBE_TREE, ray((0, 0, 0), (1, 1, 1)), at(0, "on", "in"), at(1, "on", "out"))

    def test_within_a_face_and_along_an_edge(self):
        self.assert_spans(
            CUBE_TREE, ray((-1, HALF, 0), (1, 0, 0)), at(0, "out", "out"), at(1, "on", "on"), at(2, "on", "out"))
        self.assert_spans(
            CUBE_TREE, ray((-1, 1, 1), (2, 0, 0)), at(0, "out", "out"), at((1, 2), "on", "on"), at(1, "on", "out"))
        self.assert_spans(CUBE_TREE, ray((HALF, 0, 1), (1, 0, 0)), at(0, "on", "on"), at((1, 2), "on", "out"))
        self.assert_spans((Z0, "in", "out"), ray((3, 2, 0), (5, -1, 0)), at(0, "on", "on"))
        # Along the edge in which two boxes touch.
        self.assert_spans(kept_tree(TWO_IN_AN_EDGE), ray((1, 1, -2), (0, 0, 1)), at(0, "out", "out"), at(2, "on", "on"), at(3, "on", "out"))

    def test_only_touching(self):
        self.assert_spans(CUBE_TREE, ray((-1, 1, HALF), (1, 1, 0)), at(0, "out", "out"))
        self.assert_spans(CUBE_TREE, ray((-1, 0, HALF), (1, 1, 0)), at(0, "out", "out"), at(1, "on", "out"))
        self.assert_spans(CUBE_TREE, ray((-1, 2, HALF), (1, -1, 0)), at(0, "out", "out"), at(1, "on", "in"), at(2, "on", "out"))
        self.assert_spans(CUBE_TREE, ray((2, 0, 2), (-1, 1, 0)), at(0, "out", "out"))
        self.assert_spans(CUBE_TREE, ray((0, 0, 2), (1, 1, -1)), at(0, "out", "out"), at(1, "on", "out"))
        self.assert_spans(GEM_TREE, ray((-3, HALF, (3, 2)), (1, 0, 0)), at(0, "out", "out"), at(3, "on", "out"))
        # Through the corner in which two boxes touch, from the one into the other.
        self.assert_spans(
            kept_tree(TWO_IN_A_CORNER), ray((-1, -1, -1), (1, 1, 1)), at(0, "out", "out"), at(1, "on", "in"), at(2, "on", "in"), at(3, "on", "out"))

    def test_through_walls_that_do_not_show(self):
        self.assert_spans(
            kept_tree(TWO_IN_A_FACE), ray((-1, HALF, HALF), (1, 0, 0)), at(0, "out", "out"), at(1, "on", "in"), at(3, "on", "out"))
        self.assert_spans(
            RING_TREE, ray((HALF, -1, HALF), (0, 1, 0)), at(0, "out", "out"), at(1, "on", "in"), at(4, "on", "out"))
        self.assert_spans(
            RING_TREE, ray(((3, 2), -1, HALF), (0, 1, 0)), at(0, "out", "out"), at(1, "on", "in"), at(2, "on", "out"),
            at(3, "on", "in"), at(4, "on", "out"))
        # At a hole's rim: within the plane of the hole's wall.
        self.assert_spans(
            RING_TREE, ray((1, -1, HALF), (0, 1, 0)), at(0, "out", "out"), at(1, "on", "in"), at(2, "on", "on"),
            at(3, "on", "in"), at(4, "on", "out"))

    def test_zero_direction(self):
        for tree in ("out", "in", CUBE_TREE):
            for origin in (ZERO, point(HALF, HALF, HALF), point(9, 9, 9)):
                self.assert_error("NoDirection", spans, tree, (origin, ZERO))
                self.assert_error("NoDirection", first_hit, tree, (origin, ZERO))

    def test_they_read_as_the_plain_reading(self):
        readings = {}
        for seed, (expression, tree) in enumerate(solids(47, 20)):
            for told in some_rays(expression, tree, seed):
                listed = spans(tree, told)
                ends = [span[0] for span in listed]
                inner = [middle(t, later) for t, later in zip(ends, ends[1:])]
                places = ends + inner + [add(ends[-1], (1, 1)), add(ends[-1], (1000, 1))]
                places += [add(t, (1, 10 ** 12)) for t in ends] + [subtract(t, (1, 10 ** 12)) for t in ends[1:]]
                for t in places:
                    wanted = read_expression(expression, ray_point(told, t))
                    self.assertEqual(read_spans(listed, t), wanted, (expression, told, t))
                    readings[wanted] = readings.get(wanted, 0) + 1
        self.assertGreater(min(readings.values()), 150)
        self.assertEqual(len(readings), 3)

    def test_their_form(self):
        """The first tuple has t zero, the t ascend, no tuple is there for nothing, and there are few."""
        for seed, (expression, tree) in enumerate(solids(48, 20) + [(None, CUBES_TREE)]):
            rays = some_rays(expression or CUBE, tree, seed)
            for told in rays:
                listed = spans(tree, told)
                self.assertIs(type(listed), list)
                self.assert_same(listed[0][0], (0, 1))
                self.assertLessEqual(len(listed), len(tree_planes(tree)) + 1)
                for t, here, after in listed:
                    self.assertIs(is_ratio(t), True)
                    self.assertIn(here, ("in", "out", "on"))
                    self.assertIn(after, ("in", "out", "on"))
                for before, later in zip(listed, listed[1:]):
                    self.assertLess(compare(before[0], later[0]), 0)
                    self.assertNotEqual(later[1:], (before[2], before[2]))

    def test_as_many_as_there_may_be(self):
        # Four planes are crossed, each where the reading changes.
        tree = kept_tree(TWO_APART)
        self.assertEqual(len(spans(tree, ray((-1, HALF, HALF), (1, 0, 0)))), 5)
        self.assertEqual(len(spans(CUBES_TREE, ray((HALF, HALF, -1), (0, 0, 1)))), 5)

    def test_they_depend_on_the_solid_and_the_ray_alone(self):
        for seed, (expression, tree) in enumerate(solids(49, 8)):
            rays = some_rays(expression, tree, seed, 3)
            for move in MOVES:
                moved = move_tree(move, tree)
                for told in rays:
                    other = (moved_point(move, told[0]), moved_vector(move, told[1]))
                    self.assert_same(spans(moved, other), spans(tree, told))
        # Other expressions of one solid.
        pieces = BOUNDED["cube in pieces"]
        for told in some_rays(pieces, CUBE_TREE, 50, 20):
            self.assert_same(spans(kept_tree(pieces), told), spans(CUBE_TREE, told))
            self.assert_same(first_hit(kept_tree(pieces), told), first_hit(CUBE_TREE, told))
            self.assert_same(spans(outside_tree(outside_tree(CUBE_TREE)), told), spans(CUBE_TREE, told))

    def test_longer_directions(self):
        for expression, tree in solids(51, 3):
            for told in some_rays(expression, tree, 3, 3):
                longer = (told[0], scaled((7, 2), told[1]))
                wanted = [((t[0] * 2, t[1] * 7), here, after) for t, here, after in spans(tree, told)]
                self.assertEqual(
                    [span[1:] for span in spans(tree, longer)], [span[1:] for span in wanted])
                for span, other in zip(spans(tree, longer), wanted):
                    self.assertEqual(compare(span[0], other[0]), 0)

    def test_far_rays(self):
        for expression in NOT_BOUNDED.values():
            tree = kept_tree(expression)
            self.assert_same(spans(tree, far_ray(tree)), [((0, 1), "in", "in")])

    def test_large_numbers(self):
        tree = kept_tree(box(point(0, 0, 0), point(BIG, BIG, BIG)))
        self.assert_same(spans(tree, ray((-BIG, 1, 1), (1, 0, 0))), [at(0, "out", "out"), at(BIG, "on", "in"), at(2 * BIG, "on", "out")])


class TestReadSpans(SpaceTest):

    def test_at_between_and_behind(self):
        listed = [at(0, "on", "in"), at((3, 2), "on", "out"), at(2, "on", "on"), at(4, "in", "in")]
        for t, wanted in (
                ((0, 1), "on"), ((1, 100), "in"), ((149, 100), "in"), ((3, 2), "on"), ((5, 3), "out"), ((2, 1), "on"),
                ((3, 1), "on"), ((4, 1), "in"), ((5, 1), "in"), ((BIG, 1), "in")):
            self.assertEqual(read_spans(listed, t), wanted, t)
        self.assertEqual(read_spans([at(0, "out", "out")], (0, 1)), "out")
        self.assertEqual(read_spans([at(0, "on", "out")], (0, 1)), "on")
        self.assertEqual(read_spans([at(0, "on", "out")], (1, BIG)), "out")
        self.assertEqual(read_spans([at(0, "out", "out"), at(1, "on", "out")], (1, 1)), "on")

    def test_ratios_are_compared_by_value(self):
        listed = [at(0, "out", "out"), at((1, 3), "on", "in"), at((2, 5), "on", "out")]
        self.assertEqual(read_spans(listed, (3, 8)), "in")
        self.assertEqual(read_spans(listed, (10, 31)), "out")
        self.assertEqual(read_spans(listed, (4, 9)), "out")


class TestInLength(SpaceTest):

    def test_known_lengths(self):
        for listed, wanted in (
                ([at(0, "out", "out")], (0, 1)), ([at(0, "on", "on")], (0, 1)), ([at(0, "in", "in")], None),
                ([at(0, "out", "out"), at(4, "on", "in"), at(5, "on", "out")], (1, 1)),
                ([at(0, "in", "in"), at((1, 3), "on", "out"), at((1, 2), "on", "in"), at(2, "on", "out")], (11, 6)),
                ([at(0, "out", "out"), at(4, "on", "in")], None), ([at(0, "on", "in"), at(1, "on", "in"), at(3, "on", "on")], (3, 1)),
                ([at(0, "in", "in"), at(1, "on", "on"), at(3, "on", "out")], (1, 1))):
            self.assert_same(in_length(listed), wanted)

    def test_it_counts_t(self):
        self.assert_same(in_length(spans(CUBE_TREE, ray((HALF, HALF, 5), (0, 0, -1)))), (1, 1))
        self.assert_same(in_length(spans(CUBE_TREE, ray((HALF, HALF, 5), (0, 0, -2)))), (1, 2))
        self.assert_same(in_length(spans(SHELL_TREE, ray(((3, 2), (3, 2), -1), (0, 0, 1)))), (2, 1))
        self.assert_same(in_length(spans(outside_tree(CUBE_TREE), ray((HALF, HALF, HALF), (0, 0, 1)))), None)
        self.assert_same(in_length(spans(outside_tree(CUBE_TREE), ray((HALF, HALF, -2), (0, 0, 1)))), None)

    def test_join_and_meet(self):
        chooser = random.Random(52)
        for (_, first), (_, second) in zip(some_bodies(53, 8), some_bodies(54, 8)):
            try:
                join, meet = join_trees(first, second), meet_trees(first, second)
            except ValueError:
                continue
            told = (some_point(chooser), vector(1, chooser.randint(2, 99), chooser.randint(-99, -2)))
            lengths = [in_length(spans(tree, told)) for tree in (join, meet, first, second)]
            self.assert_same(add(lengths[0], lengths[1]), add(lengths[2], lengths[3]))


class TestFirstHit(SpaceTest):

    def assert_hit(self, tree, told, t, reading, *halves):
        t = (t, 1) if isinstance(t, int) else t
        self.assert_same(first_hit(tree, told), (t, reading, list(halves)))

    def test_none(self):
        self.assertIsNone(first_hit("out", ray((0, 0, 0), (1, 0, 0))))
        self.assertIsNone(first_hit(CUBE_TREE, ray((HALF, HALF, 5), (0, 0, 1))))
        self.assertIsNone(first_hit(CUBE_TREE, ray((5, 5, 5), (1, -1, 0))))

    def test_a_face(self):
        self.assert_hit(CUBE_TREE, ray((HALF, HALF, 5), (0, 0, -1)), 4, "on", (Z1, -1))
        self.assert_hit(CUBE_TREE, ray((HALF, HALF, -5), (0, 0, 2)), (5, 2), "on", (Z0, 1))
        self.assert_hit(CUBE_TREE, ray((HALF, HALF, 1), (0, 0, 1)), 0, "on", (Z1, -1))
        self.assert_hit(outside_tree(CUBE_TREE), ray((HALF, HALF, HALF), (0, 0, 1)), (1, 2), "on", (Z1, 1))

    def test_an_edge_and_a_corner(self):
        self.assert_hit(CUBE_TREE, ray((-1, 0, HALF), (1, 1, 0)), 1, "on", (Y1, -1), (X0, 1))
        self.assert_hit(CUBE_TREE, ray((-1, 2, HALF), (1, -1, 0)), 1, "on", (Y1, -1), (X0, 1))
        self.assert_hit(CUBE_TREE, ray((0, 0, 2), (1, 1, -1)), 1, "on", (Z1, -1), (Y1, -1), (X1, -1))
        self.assert_hit(CUBE_TREE, ray((-1, -1, -1), (1, 1, 1)), 1, "on", (Z0, 1), (Y0, 1), (X0, 1))
        self.assert_hit(CUBE_TREE, ray((-1, 1, 1), (2, 0, 0)), (1, 2), "on", (Z1, -1), (Y1, -1), (X0, 1))
        self.assertEqual(len(first_hit(GEM_TREE, ray((-3, HALF, 0), (1, 0, 0)))[2]), 4)

    def test_where_two_bodies_touch(self):
        # In an edge: both planes stand there with both sides.
        edge = kept_tree(TWO_IN_AN_EDGE)
        self.assert_hit(edge, ray((0, 2, HALF), (1, -1, 0)), 1, "on", (Y1, -1), (Y1, 1), (X1, -1), (X1, 1))
        # In a corner.
        corner = kept_tree(TWO_IN_A_CORNER)
        self.assert_hit(
            corner, ray((0, 2, 1), (1, -1, 0)), 1, "on", (Z1, -1), (Z1, 1), (Y1, -1), (Y1, 1), (X1, -1), (X1, 1))
        # In a face: there is no face any more, so its edge has only the outer planes.
        face = kept_tree(TWO_IN_A_FACE)
        self.assert_hit(face, ray((1, HALF, 5), (0, 0, -1)), 4, "on", (Z1, -1))

    def test_without_duplicates(self):
        # Several faces with one plane meet at the place.
        told = first_hit(RING_TREE, ray((1, 1, 5), (0, 0, -1)))
        self.assert_same(told, ((4, 1), "on", [(Z1, -1), (Y1, -1), (X1, -1)]))
        planes = [face[0] for face in faces_at(faces(RING_TREE), point(1, 1, 1))]
        self.assertGreater(planes.count(Z1), 1)

    def test_from_inside(self):
        self.assert_hit(CUBE_TREE, ray((HALF, HALF, HALF), (1, 2, 3)), 0, "in")
        self.assert_hit("in", ray((0, 0, 0), (1, 0, 0)), 0, "in")
        self.assert_hit(kept_tree(TWO_IN_A_FACE), ray((1, HALF, HALF), (0, 1, 0)), 0, "in")

    def test_by_definition(self):
        hits = {"in": 0, "on": 0, None: 0}
        both_sides = 0
        for seed, (expression, tree) in enumerate(solids(55, 25)):
            for told in some_rays(expression, tree, seed + 100, 8):
                listed = spans(tree, told)
                hit = first_hit(tree, told)
                reached = [span for span in listed if span[1] != "out" or span[2] != "out"]
                if hit is None:
                    self.assertEqual(reached, [])
                    hits[None] += 1
                    continue
                t, reading, halves = hit
                self.assert_same((t, reading), reached[0][:2])
                self.assertEqual(reading, read_tree(tree, ray_point(told, t)))
                if reading == "in":
                    self.assert_same(hit, ((0, 1), "in", []))
                else:
                    self.assert_same(halves, halves_by_cones(expression, ray_point(told, t)))
                    self.assertTrue(halves)
                    both_sides += len({plane for plane, inner in halves}) < len(halves)
                hits[reading] += 1
        self.assertGreater(min(hits.values()), 20)
        self.assertGreater(both_sides, 0)

    def test_it_depends_on_the_solid_and_the_ray_alone(self):
        for seed, (expression, tree) in enumerate(solids(56, 4)):
            for told in some_rays(expression, tree, seed, 3):
                hit = first_hit(tree, told)
                for move in MOVES:
                    other = first_hit(move_tree(move, tree), (moved_point(move, told[0]), moved_vector(move, told[1])))
                    if hit is None:
                        self.assertIsNone(other)
                    else:
                        self.assert_same(other, hit[:2] + (sorted(moved_half(move, half) for half in hit[2]),))

    def test_lists_are_new(self):
        told = ray((0, 0, 2), (1, 1, -1))
        for call in (first_hit, spans):
            expected = kinds_of(call(CUBE_TREE, told))
            found = call(CUBE_TREE, told)
            for member in lists_in(found):
                member.append("changed")
            self.assertEqual(kinds_of(call(CUBE_TREE, told)), expected)
        listed = spans(CUBE_TREE, told)
        before = kinds_of(listed)
        read_spans(listed, (1, 2))
        in_length(listed)
        self.assertEqual(kinds_of(listed), before)

    def test_rays_between_inner_points(self):
        """From a point of a solid towards a point of it, the way out and in again shows in the spans."""
        for expression, tree in solids(57, 0):
            if tree not in ("in", "out"):
                p, q = inner_point(tree), cell_points(tree)[0]
                if p != q:
                    listed = spans(tree, (p, minus(q, p)))
                    self.assertEqual(read_spans(listed, (0, 1)), "in")
                    self.assertEqual(read_spans(listed, (1, 1)), read_tree(tree, q))
                    self.assertEqual(read_spans(listed, (1, 2)), read_tree(tree, blend(p, q, (1, 2))))

    def test_a_tree_that_is_large(self):
        self.assert_hit(CUBES_TREE, ray((HALF, HALF, 9), (0, 0, -1)), 6, "on", (plane_at(2, 3), -1))
        self.assert_hit(CUBES_TREE, ray((1, 1, 9), (0, 0, -1)), 6, "on", (plane_at(2, 3), -1), (Y1, -1), (Y1, 1), (X1, -1), (X1, 1))
        self.assertEqual(keep(CUBES_TREE), CUBES_TREE)
        self.assertIsNotNone(first_hit(kept_tree(octahedron(ZERO, (1, 3))), ray((1, 0, 0), (-1, 0, 0))))


if __name__ == "__main__":
    unittest.main()
