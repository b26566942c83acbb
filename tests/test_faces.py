"""Points 40 to 43."""

import itertools
import random
import unittest

from everypoint.faces import (
    area_sum, face_corners, faces, faces_at, on_face, open_edges, outward_normal, read_faces, tree_of_faces)
from everypoint.keeping import inner_point, kept_tree, move_tree, outside_tree
from everypoint.moves import make_move, mirror_axis, quarter_turn
from everypoint.planes import normal_of, side_of
from everypoint.polygons import area_vector, is_bounded_patch, patch_corners
from everypoint.ratios import sign
from everypoint.reading import read_expression
from everypoint.systems import closed, has_point, holds
from everypoint.trees import cells, node_count, read_tree, tree_planes
from everypoint.vectors import blend, compare_points, dot, in_line, plus, scaled, strictly_between
from everypoint.walls import walls, walls_unlike
from samples import (
    BOUNDED, CUBE, CUBES_TREE, GEM, NOT_BOUNDED, RING, SHELL, TWO_IN_A_CORNER, TWO_IN_A_FACE, TWO_IN_AN_EDGE, TWO_IN_PART_OF_A_FACE,
    points_of, some_body, some_kept_trees, some_point)
from support import X0, Y0, Z0, SpaceTest, kinds_of, lists_in, plane_at, point

X1, Y1, Z1 = plane_at(0, 1), plane_at(1, 1), plane_at(2, 1)
CUBE_FACES = faces(kept_tree(CUBE))
SQUARE = [(X0, 1), (X1, -1), (Y0, 1), (Y1, -1)]
MIDDLE = point((1, 2), (1, 2), (1, 2))
OPEN_FACE = (Z0, 1, [(X0, 1), (X1, -1)])


SAMPLES = [(expression, kept_tree(expression)) for expression in BOUNDED.values()]


def bodies(seed, count):
    """Tuples (expression, kept tree) of the bounded samples and of some more."""
    chooser = random.Random(seed)
    return SAMPLES + some_kept_trees(
        chooser, lambda: (chooser.choice(("join", "meet", "take")), some_body(chooser), some_body(chooser)), count)


def directed_edges(listed):
    """The directed edges of faces, each as often as it is there."""
    return [
        edge for face in listed for corners in [face_corners(face)] for edge in zip(corners, corners[1:] + corners[:1])]


def open_edges_by_definition(listed):
    """Point 42, with each segment tried against each edge."""
    edges = directed_edges(listed)
    found = {}
    for first in edges:
        on_line = [edge for edge in edges if in_line(*first, edge[0]) and in_line(*first, edge[1])]
        ends = sorted({p for edge in on_line for p in edge}, key=lambda p: [a * 10 ** 9 // b for a, b in p])
        for p, q in zip(ends, ends[1:]):
            half_way = blend(p, q, (1, 2))
            net = 0
            for start, end in on_line:
                if strictly_between(start, end, half_way):
                    net += -compare_points(start, end)
            if net != 0:
                found[(p, q)] = net
    ordered = sorted(found, key=lambda edge: [a * 10 ** 9 // b for p in edge for a, b in p])
    return [edge + (found[edge],) for edge in ordered]


class TestFaces(SpaceTest):

    def test_known_faces(self):
        self.assert_same(faces("in"), [])
        self.assert_same(faces("out"), [])
        self.assert_same(faces((X0, "in", "out")), [(X0, 1, [])])
        self.assert_same(faces((X0, "out", "in")), [(X0, -1, [])])
        layer = ((0, 0, 1, -2), "out", (Z0, "in", "out"))
        self.assert_same(faces(layer), [((0, 0, 1, -2), -1, [(Z0, 1)]), (Z0, 1, [((0, 0, 1, -2), -1)])])
        self.assert_same(faces((Y0, (X0, "in", "out"), "out")), [(Y0, 1, [(X0, 1)]), (X0, 1, [(Y0, 1)])])
        self.assertEqual([face[:2] for face in CUBE_FACES], [
            (Z1, -1), (Z0, 1), (Y1, -1), (Y0, 1), (X1, -1), (X0, 1)])
        self.assert_same(CUBE_FACES[0], (Z1, -1, [(Z0, 1), (Y1, -1), (Y0, 1), (X1, -1), (X0, 1)]))

    def test_they_are_the_unlike_walls(self):
        for expression, tree in bodies(1, 20) + [(None, kept_tree(expression)) for expression in NOT_BOUNDED.values()]:
            marks = [mark for conditions, mark in cells(tree)]
            wanted = [
                (plane, 1 if marks[front] == "in" else -1, bounds)
                for plane, bounds, front, back in walls(tree) if marks[front] != marks[back]]
            self.assert_same(faces(tree), wanted)
            self.assertEqual(len(wanted), len(walls_unlike(tree)))
            for plane, inner, bounds in wanted:
                self.assertTrue(has_point(bounds + [(plane, 0)]))

    def test_faces_of_both_sides(self):
        sides = {(plane, inner) for plane, inner, bounds in faces(kept_tree(SHELL))}
        self.assertEqual(sides, {
            (plane_at(axis, place), 1 if place in (0, 2) else -1) for axis in range(3) for place in range(4)})
        touching = faces(kept_tree(TWO_IN_AN_EDGE))
        self.assertEqual({inner for plane, inner, bounds in touching if plane == X1}, {1, -1})

    def test_no_face_between_joined_boxes(self):
        self.assertNotIn(X1, [face[0] for face in faces(kept_tree(TWO_IN_A_FACE))])
        part = faces(kept_tree(TWO_IN_PART_OF_A_FACE))
        place = point(1, (3, 4), (1, 2))
        self.assertEqual(faces_at(part, place), [])
        self.assertEqual(read_tree(kept_tree(TWO_IN_PART_OF_A_FACE), place), "in")
        self.assertIn(X1, [face[0] for face in part])

    def test_on_a_face(self):
        face = (Z0, 1, SQUARE)
        for place, wanted in (
                ((0, 0, 0), True), ((1, 1, 0), True), (((1, 2), (1, 2), 0), True), (((1, 2), 0, 0), True),
                (((1, 2), (1, 2), (1, 10 ** 9)), False), ((2, 0, 0), False), (((-1, 10 ** 9), 0, 0), False), ((0, 0, 1), False)):
            self.assertIs(on_face(face, point(*place)), wanted)
            self.assertIs(on_face((Z0, -1, SQUARE), point(*place)), wanted)
        self.assertIs(on_face((X0, -1, []), point(0, 99, -99)), True)
        self.assertIs(on_face((X0, -1, []), point(1, 99, -99)), False)

    def test_points_that_read_on_lie_on_a_face(self):
        """The fact of point 40."""
        told = {True: 0, False: 0}
        for seed, (expression, tree) in enumerate(bodies(2, 15)):
            listed = faces(tree)
            for place in points_of(expression, seed, 20):
                reads_on = read_expression(expression, place) == "on"
                self.assertIs(any(on_face(face, place) for face in listed), reads_on)
                self.assertIs(bool(faces_at(listed, place)), reads_on)
                told[reads_on] += 1
        for expression in NOT_BOUNDED.values():
            listed = faces(kept_tree(expression))
            for place in points_of(expression, 3, 20):
                self.assertIs(bool(faces_at(listed, place)), read_expression(expression, place) == "on")
        self.assertGreater(min(told.values()), 100)

    def test_faces_at(self):
        self.assert_same(faces_at(CUBE_FACES, point(0, 0, 0)), [CUBE_FACES[1], CUBE_FACES[3], CUBE_FACES[5]])
        self.assert_same(faces_at(CUBE_FACES, point(1, (1, 2), 0)), [CUBE_FACES[1], CUBE_FACES[4]])
        self.assert_same(faces_at(CUBE_FACES, MIDDLE), [])
        self.assert_same(faces_at([], MIDDLE), [])
        self.assert_same(faces_at(CUBE_FACES[::-1], point(0, 0, 0)), [CUBE_FACES[5], CUBE_FACES[3], CUBE_FACES[1]])
        # A face that is twice in the list is told twice.
        face = CUBE_FACES[1]
        found = faces_at([face, CUBE_FACES[0], face], point((1, 2), (1, 2), 0))
        self.assert_same(found, [face, face])
        # The lists in the answer are copies.
        self.assertEqual(len({id(bounds) for plane, inner, bounds in found} | {id(face[2])}), 3)
        found[0][2].clear()
        self.assertEqual(len(face[2]), 5)
        self.assertEqual(len(found[1][2]), 5)

    def test_lists_are_new(self):
        tree = kept_tree(RING)
        found = faces(tree)
        expected = repr(found)
        lists = lists_in(found)
        self.assertEqual(len({id(member) for member in lists}), len(lists))
        for member in lists:
            member.append("changed")
        self.assertEqual(repr(faces(tree)), expected)


class TestCorners(SpaceTest):

    def test_known_corners(self):
        below = [point(0, 0, 0), point(0, 1, 0), point(1, 1, 0), point(1, 0, 0)]
        # The solid lies above, so the face is seen from below.
        self.assert_same(face_corners((Z0, 1, SQUARE)), below)
        self.assert_same(face_corners((Z0, -1, SQUARE)), below[:1] + below[:0:-1])
        self.assert_same(face_corners(CUBE_FACES[1]), below)
        self.assert_same(outward_normal((Z0, 1, SQUARE)), point(0, 0, -1))
        self.assert_same(outward_normal((Z0, -1, SQUARE)), point(0, 0, 1))
        self.assert_same(outward_normal(((2, -3, 0, 7), 1, [])), point(-2, 3, 0))

    def test_corners_are_seen_from_outside(self):
        for expression, tree in bodies(4, 20):
            for face in faces(tree):
                plane, inner, bounds = face
                corners = face_corners(face)
                polygon = patch_corners(plane, bounds)
                self.assert_same(corners, polygon if inner == -1 else polygon[:1] + polygon[:0:-1])
                self.assert_same(outward_normal(face), scaled((-inner, 1), normal_of(plane)))
                self.assertEqual(sign(dot(area_vector(corners), outward_normal(face))), 1)
                # A little outwards the solid is out, and a little inwards it is in.
                centre = blend(blend(corners[0], corners[1], (1, 2)), corners[2], (1, 3))
                step = scaled((1, 10 ** 9), outward_normal(face))
                self.assertEqual(read_tree(tree, plus(centre, step)), "out")
                self.assertEqual(read_tree(tree, plus(centre, scaled((-1, 1), step))), "in")
                self.assertEqual(read_tree(tree, centre), "on")

    def test_area_vectors_add_up_to_zero(self):
        for expression, tree in bodies(5, 20):
            listed = faces(tree)
            self.assert_same(area_sum(listed), point(0, 0, 0))
            if listed:
                self.assert_same(
                    area_sum(listed[1:]), scaled((-1, 1), area_vector(face_corners(listed[0]))))
        self.assert_same(area_sum([]), point(0, 0, 0))
        self.assert_same(area_sum([CUBE_FACES[0], CUBE_FACES[0], CUBE_FACES[2]]), point(0, 1, 2))

    def test_unbounded(self):
        outside = faces(outside_tree(kept_tree(CUBE)))
        self.assert_same(area_sum(outside), point(0, 0, 0))
        self.assertIs(is_bounded_patch(*OPEN_FACE[::2]), False)
        self.assert_error("Unbounded", face_corners, OPEN_FACE)
        self.assert_error("Unbounded", face_corners, (X0, 1, []))
        for told in (area_sum, open_edges, tree_of_faces):
            self.assert_error("Unbounded", told, [OPEN_FACE])
            self.assert_error("Unbounded", told, CUBE_FACES + [OPEN_FACE])
            self.assert_error("Unbounded", told, faces(kept_tree(NOT_BOUNDED["layer"])))
            self.assert_error("Unbounded", told, faces(kept_tree(NOT_BOUNDED["cube and half"])))


class TestOpenEdges(SpaceTest):

    def test_bounded_solids_have_none(self):
        for expression, tree in bodies(6, 20):
            self.assert_same(open_edges(faces(tree)), [])
            self.assert_same(open_edges(faces(outside_tree(tree))), [])
        self.assert_same(open_edges([]), [])

    def test_one_face(self):
        self.assert_same(open_edges([(Z0, -1, SQUARE)]), [
            (point(0, 0, 0), point(0, 1, 0), -1), (point(0, 0, 0), point(1, 0, 0), 1),
            (point(0, 1, 0), point(1, 1, 0), -1), (point(1, 0, 0), point(1, 1, 0), 1)])
        self.assert_same(open_edges([(Z0, 1, SQUARE)]), [
            (point(0, 0, 0), point(0, 1, 0), 1), (point(0, 0, 0), point(1, 0, 0), -1),
            (point(0, 1, 0), point(1, 1, 0), 1), (point(1, 0, 0), point(1, 1, 0), -1)])
        # Twice in the list, it counts twice; with its opposite, it counts for nothing.
        self.assertEqual([net for p, q, net in open_edges([(Z0, 1, SQUARE)] * 2)], [2, -2, 2, -2])
        self.assertEqual([net for p, q, net in open_edges([(Z0, -1, SQUARE)] * 3)], [-3, 3, -3, 3])
        self.assert_same(open_edges([(Z0, 1, SQUARE), (Z0, -1, SQUARE)]), [])

    def test_a_face_that_is_left_out(self):
        for expression, tree in bodies(7, 8):
            listed = faces(tree)
            for at in range(0, len(listed), 4):
                others = listed[:at] + listed[at + 1:]
                found = open_edges(others)
                # The sides of the face, perhaps cut into several segments: together they go around it the other way.
                corners = face_corners(listed[at])
                sides = list(zip(corners, corners[1:] + corners[:1]))
                self.assertGreaterEqual(len(found), len(corners))
                for p, q, net in found:
                    around = [
                        (start, end) for start, end in sides
                        if in_line(start, end, p) and in_line(start, end, q)
                        and strictly_between(start, end, blend(p, q, (1, 2)))]
                    self.assertEqual(len(around), 1)
                    self.assertEqual(net, compare_points(*around[0]))
                total = point(0, 0, 0)
                for p, q, net in found:
                    total = plus(total, scaled((net, 1), plus(q, scaled((-1, 1), p))))
                self.assert_same(total, point(0, 0, 0))

    def test_edges_cut_into_several_segments(self):
        # Two squares beside a longer one: the ends of the short sides cut the long side.
        long = (Z0, -1, [(X0, 1), (plane_at(0, 2), -1), (Y0, 1), (Y1, -1)])
        short = (Z0, -1, [(X0, 1), (X1, -1), (Y1, 1), (plane_at(1, 2), -1)])
        self.assert_same(open_edges([long, short]), [
            (point(0, 0, 0), point(0, 1, 0), -1), (point(0, 0, 0), point(2, 0, 0), 1),
            (point(0, 1, 0), point(0, 2, 0), -1), (point(0, 2, 0), point(1, 2, 0), -1),
            (point(1, 1, 0), point(1, 2, 0), 1), (point(1, 1, 0), point(2, 1, 0), -1),
            (point(2, 0, 0), point(2, 1, 0), 1)])
        # Ends count also where edges cancel, and neighbouring segments are never joined.
        above = (Z0, -1, [(X1, 1), (plane_at(0, 2), -1), (Y1, 1), (plane_at(1, 2), -1)])
        half = (Z0, 1, [(X1, 1), (plane_at(0, 2), -1), (Y1, 1), (plane_at(1, 2), -1)])
        self.assert_same(open_edges([long, above, half]), [
            (point(0, 0, 0), point(0, 1, 0), -1), (point(0, 0, 0), point(2, 0, 0), 1),
            (point(0, 1, 0), point(1, 1, 0), -1), (point(1, 1, 0), point(2, 1, 0), -1),
            (point(2, 0, 0), point(2, 1, 0), 1)])

    def test_by_definition(self):
        chooser = random.Random(8)
        for expression, tree in bodies(9, 6):
            listed = faces(tree)
            chosen = [face for face in listed if chooser.random() < 0.4][:9]
            chosen += chosen[:2] + [(plane, -inner, bounds) for plane, inner, bounds in chosen[2:3]]
            self.assert_same(open_edges(chosen), open_edges_by_definition(chosen))
            shuffled = chooser.sample(chosen, len(chosen))
            self.assert_same(open_edges(shuffled), open_edges(chosen))

    def test_slanted_edges(self):
        gem = faces(kept_tree(GEM))
        self.assert_same(open_edges(gem[3:]), open_edges_by_definition(gem[3:]))
        self.assertEqual(len(open_edges(gem[1:])), 3)


class TestReading(SpaceTest):

    def test_readings_are_the_plain_reading(self):
        chooser = random.Random(10)
        told = {}
        for seed, (expression, tree) in enumerate(bodies(11, 15)):
            listed = faces(tree)
            shuffled = chooser.sample(listed, len(listed))
            corners = [corner for face in listed[:2] for corner in face_corners(face)]
            edges = [blend(p, q, (2, 5)) for p, q in zip(corners, corners[1:])]
            inside = [inner_point(tree)] if tree != "out" else []
            for place in points_of(expression, seed, 5) + corners[:2] + edges[:2] + inside + [some_point(chooser, 9, 1)]:
                wanted = read_expression(expression, place)
                self.assertEqual(read_faces(listed, place), wanted, (expression, place))
                self.assertEqual(read_faces(shuffled, place), wanted)
                told[wanted] = told.get(wanted, 0) + 1
        self.assertGreater(min(told.values()), 15)
        self.assertEqual(len(told), 3)

    def test_points_from_which_the_first_directions_are_unfit(self):
        for place, wanted in (
                # Along (1, 0, 0) the ray meets an edge, runs along one, or runs within the plane of a face.
                ((-1, (1, 2), 1), "out"), ((-1, 0, 0), "out"), ((-1, 1, 1), "out"), ((-2, 0, (1, 2)), "out"),
                (((-1, 2), 0, 0), "out"), ((-1, 5, 0), "out"), ((5, 1, 1), "out"),
                # Along (1, 1, 1), and along (1, 2, 4), too, the ray meets a corner.
                ((-1, -1, -1), "out"), ((-1, -2, -4), "out"), ((-2, -2, -2), "out"),
                (((1, 2), (1, 2), (1, 2)), "in"), (((1, 4), (1, 2), (1, 4)), "in"), ((0, (1, 2), (1, 2)), "on"),
                ((1, 1, 1), "on")):
            self.assertEqual(read_faces(CUBE_FACES, point(*place)), wanted, place)
        # From the centre of the gem the first ray meets a corner.
        self.assertEqual(read_faces(faces(kept_tree(GEM)), point(0, (1, 2), 0)), "in")
        for expression in (GEM, TWO_IN_A_CORNER, TWO_IN_AN_EDGE):
            listed = faces(kept_tree(expression))
            for parts in itertools.product((-1, 0, 1, 2), repeat=3):
                place = point(*parts)
                self.assertEqual(read_faces(listed, place), read_expression(expression, place))

    def test_holes_and_hollows(self):
        shell = faces(kept_tree(SHELL))
        for place, wanted in (((1, 1, (1, 2)), "in"), (((3, 2), (3, 2), (3, 2)), "out"), ((1, 1, 1), "on"), ((4, 4, 4), "out")):
            self.assertEqual(read_faces(shell, point(*place)), wanted)

    def test_no_faces(self):
        self.assertEqual(read_faces([], MIDDLE), "out")

    def test_unbounded(self):
        for place in (MIDDLE, point(0, 0, 0), point(5, 5, 5), point((1, 2), 3, 0)):
            self.assert_error("Unbounded", read_faces, [OPEN_FACE], place)
            self.assert_error("Unbounded", read_faces, CUBE_FACES + [OPEN_FACE], place)
            self.assert_error("Unbounded", read_faces, faces(kept_tree(NOT_BOUNDED["cone"])), place)


class TestTreeOfFaces(SpaceTest):

    def test_it_gives_the_tree_back(self):
        chooser = random.Random(12)
        for expression, tree in bodies(13, 25):
            listed = faces(tree)
            self.assert_same(tree_of_faces(listed), tree)
            self.assert_same(tree_of_faces(chooser.sample(listed, len(listed))), tree)
        self.assert_same(tree_of_faces([]), "out")

    def test_moved_solids(self):
        for move in (mirror_axis(0), quarter_turn(1), make_move([[1, 2, 0], [0, 1, (1, 2)], [1, 0, -2]], [1, -1, 0])):
            for expression in (RING, TWO_IN_A_CORNER, GEM):
                tree = move_tree(move, kept_tree(expression))
                self.assert_same(tree_of_faces(faces(tree)), tree)
                self.assert_same(area_sum(faces(tree)), point(0, 0, 0))

    def test_a_large_tree(self):
        self.assertEqual((node_count(CUBES_TREE), len(tree_planes(CUBES_TREE))), (44, 12))
        listed = faces(CUBES_TREE)
        self.assertGreaterEqual(len(listed), 14 * 6)
        self.assert_same(tree_of_faces(listed[::-1]), CUBES_TREE)
        self.assert_same(open_edges(listed), [])

    def test_the_list_stays(self):
        given = faces(kept_tree(RING))
        expected = kinds_of(given)
        for told in (tree_of_faces, open_edges, area_sum):
            told(given)
        read_faces(given, MIDDLE)
        faces_at(given, MIDDLE)
        self.assertEqual(kinds_of(given), expected)

    def test_closed_forms_count(self):
        """An edge of a face is on the face, and its bounds do not hold there."""
        for plane, inner, bounds in CUBE_FACES:
            for corner in face_corners((plane, inner, bounds)):
                self.assertEqual(side_of(plane, corner), 0)
                self.assertIs(holds(bounds, corner), False)
                self.assertIs(holds(closed(bounds), corner), True)


if __name__ == "__main__":
    unittest.main()
