"""Points 53 and 54, and points 66 and 67 as far as they speak of pieces and chains of neighbours."""

import random
import unittest

from everypoint.expressions import planes_of
from everypoint.faces import faces
from everypoint.keeping import (
    is_empty, join_trees, keep, kept_tree, meet_trees, move_tree, outside_tree, same_solid, take_trees, within)
from everypoint.moves import make_move, mirror_axis
from everypoint.pieces import convex_witness, fill_hollows, hollows, is_bend, piece_at, piece_tree, pieces
from everypoint.polygons import is_bounded_cell
from everypoint.ratios import add
from everypoint.shapes import box, hull, tetrahedron, wedge
from everypoint.systems import closed, has_point, holds
from everypoint.trees import MOST_NODES, cell_points, cells, in_cells, node_count, read_tree, tree_planes
from everypoint.vectors import blend, is_vector, strictly_between
from everypoint.volumes import volume_by_cells
from everypoint.walls import is_kept, walls
from samples import (
    BOUNDED, CORNERED, CUBE, CUBES_TREE, FULL, GEM, HOUSE, NOT_BOUNDED, RING, SHELL, SPIKE, SPREAD, TWO_APART, TWO_IN_A_CORNER, TWO_IN_A_FACE,
    TWO_IN_AN_EDGE, TWO_IN_PART_OF_A_FACE, layered_tree, points_of, row_of, some_bodies, some_expression, some_kept_trees, some_planes,
    telling_points)
from support import X0, Y0, Z0, SpaceTest, kinds_of, lists_in, plane_at, point

HALF = (1, 2)
MIDDLE = point(HALF, HALF, HALF)
CUBE_TREE, SHELL_TREE = kept_tree(CUBE), kept_tree(SHELL)
CONVEX = {
    "cube": CUBE, "spike": SPIKE, "gem": GEM, "both": BOUNDED["both"], "in a face": TWO_IN_A_FACE, "in pieces": BOUNDED["cube in pieces"],
    "roof": wedge(point(0, 0, 0), point(1, 2, 3)), "empty": ("take", CUBE, FULL), "house": HOUSE,
    "hull": hull([point(0, 0, 0), point(3, 0, 1), point(0, 3, 2), point(-1, -1, 4), point(1, 1, -2)]), "no part": ("take", CUBE, CUBE)}
BENT = {
    "ring": RING, "shell": SHELL, "in part of a face": TWO_IN_PART_OF_A_FACE, "in an edge": TWO_IN_AN_EDGE, "in a corner": TWO_IN_A_CORNER,
    "apart": TWO_APART, "cornered": CORNERED, "outside of a cube": ("outside", CUBE), "outside of a gem": ("outside", GEM),
    "dent": ("take", GEM, tetrahedron(point(0, HALF, 0), point(1, 1, 9), point(-1, 1, 9), point(0, -1, 9)))}


def around(k):
    """A tetrahedron around the origin."""
    return tetrahedron(point(-k, -k, -k), point(3 * k, -k, -k), point(-k, 3 * k, -k), point(-k, -k, 3 * k))


NESTED = ("join", ("take", around(3), around(2)), around(1))


def all_trees(seed, count):
    chooser = random.Random(seed)
    made = [kept_tree(expression) for expression in list(BOUNDED.values()) + list(NOT_BOUNDED.values()) + list(BENT.values())]
    made += [tree for expression, tree in some_kept_trees(
        chooser, lambda: some_expression(chooser, some_planes(chooser, chooser.randint(2, 6)), chooser.randint(3, 9)), count)]
    return made + [outside_tree(SHELL_TREE), CUBES_TREE, outside_tree(CUBES_TREE), "in", "out"]


def layered_kept():
    """A kept tree with 52 nodes and without hollows."""
    return keep(layered_tree(2, 1, 0))


def groups_by_definition(tree, mark):
    """The greatest sets of cells of one mark, put together wall by wall."""
    groups = [[number] for number, cell in enumerate(cells(tree)) if cell[1] == mark]
    for plane, bounds, front, back in walls(tree):
        mine = [group for group in groups if front in group]
        others = [group for group in groups if back in group]
        if mine and others and mine != others:
            groups.remove(others[0])
            mine[0].extend(others[0])
    return sorted(sorted(group) for group in groups)


class TestPieces(SpaceTest):

    def test_empty_and_full(self):
        self.assert_same(pieces("out"), [])
        self.assert_same(pieces("in"), [[0]])
        self.assert_same(hollows("out"), [])
        self.assert_same(hollows("in"), [])

    def test_known_pieces(self):
        for expression, count in (
                (CUBE, 1), (TWO_IN_A_FACE, 1), (TWO_IN_PART_OF_A_FACE, 1), (TWO_IN_AN_EDGE, 2), (TWO_IN_A_CORNER, 2), (TWO_APART, 2),
                (RING, 1), (SHELL, 1), (("outside", CUBE), 1), (("outside", SHELL), 2), (HOUSE, 1),
                (("join", ("half", plane_at(0, 1), 1), ("half", X0, -1)), 2), (("join", SHELL, box(point(1, 1, 1), point(2, 2, 2))), 1), (NESTED, 2), (("outside", NESTED), 2),
                (("take", box(point(0, 0, 0), point(3, 1, 1)), box(point(1, -1, -1), point(2, 3, 3))), 2)):
            self.assertEqual(len(pieces(kept_tree(expression))), count, expression)
        self.assertEqual(len(pieces(CUBES_TREE)), 14)
        # Four quarters of space around a line, two of them "in": the two touch in the line alone.
        self.assert_same(pieces((Y0, (X0, "in", "out"), (X0, "out", "in"))), [[0], [3]])
        self.assert_same(pieces((Y0, (X0, "in", "out"), "in")), [[0, 2]])
        # Two that touch in a part of a face.
        self.assert_same(pieces((plane_at(1, 1), (X0, "out", "in"), (Y0, "in", "out"))), [[1, 2]])

    def test_known_hollows(self):
        self.assert_same([len(hollows(kept_tree(expression))) for expression in (
            CUBE, RING, SHELL, ("outside", SHELL), ("outside", CUBE), ("outside", TWO_APART), ("outside", TWO_IN_A_CORNER), TWO_APART)],
            [0, 0, 1, 1, 1, 2, 2, 0])
        # The outside of a box is not bounded and has one hollow: the box.
        self.assert_same(hollows(outside_tree(CUBE_TREE)), pieces(CUBE_TREE))
        self.assert_same(hollows(outside_tree(CUBES_TREE)), pieces(CUBES_TREE))
        self.assert_same(hollows((Z0, "in", "out")), [])
        # A set with a cell that is not bounded is no hollow: a tunnel through a layer.
        tunnel = kept_tree(("take", NOT_BOUNDED["layer"], NOT_BOUNDED["pillar"]))
        self.assert_same(hollows(tunnel), [])
        self.assert_same(len(pieces(outside_tree(tunnel))), 1)
        # A hollow of two cells that touch in a face, and two that touch in an edge only.
        self.assertEqual([len(group) for group in hollows(outside_tree(kept_tree(RING)))], [4])
        self.assertEqual(len(hollows(outside_tree(kept_tree(TWO_IN_PART_OF_A_FACE)))), 1)
        self.assertEqual(len(hollows(outside_tree(kept_tree(TWO_IN_AN_EDGE)))), 2)
        # A body within a hollow.
        self.assertEqual([len(call(kept_tree(NESTED))) for call in (pieces, hollows)], [2, 1])
        # A dent is no hollow.
        self.assert_same(hollows(kept_tree(CORNERED)), [])

    def test_by_definition(self):
        several = 0
        for tree in all_trees(53, 30):
            self.assert_same(pieces(tree), groups_by_definition(tree, "in"))
            listed = cells(tree)
            wanted = [
                group for group in groups_by_definition(tree, "out")
                if all(is_bounded_cell(listed[number][0]) for number in group)]
            self.assert_same(hollows(tree), wanted)
            together = [number for group in pieces(tree) + hollows(tree) for number in group]
            self.assertEqual(len(set(together)), len(together))
            self.assertLessEqual(len(together), node_count(tree) + 1)
            several += len(pieces(tree)) > 1
        self.assertGreater(several, 10)

    def test_the_order(self):
        for tree in all_trees(54, 10):
            for groups in (pieces(tree), hollows(tree)):
                for group in groups:
                    self.assert_same(group, sorted(set(group)))
                self.assert_same(groups, sorted(groups))
                self.assertTrue(all(groups))

    def test_a_long_chain(self):
        # A winding way through cells, in which only neighbours one after the other have a wall.
        rows = [["in"] * 4, ["out", "out", "out", "in"], ["in"] * 4, ["in", "out", "out", "out"], ["in"] * 4]
        tree = keep(row_of(2, [row_of(1, [row_of(0, row) for row in rows])]))
        self.assertEqual(len(pieces(tree)), 1)
        rows[2][1] = "out"
        tree = keep(row_of(2, [row_of(1, [row_of(0, row) for row in rows])]))
        self.assertEqual(len(pieces(tree)), 2)

    def test_lists_are_new(self):
        for call, tree in ((pieces, CUBES_TREE), (hollows, outside_tree(CUBES_TREE))):
            found = call(tree)
            expected = kinds_of(found)
            lists = lists_in(found)
            self.assertEqual(len({id(member) for member in lists}), 15)
            for member in lists:
                member.append(1)
            self.assertEqual(kinds_of(call(tree)), expected)


class TestPieceAt(SpaceTest):

    def test_known_points(self):
        tree = kept_tree(TWO_APART)
        first = piece_at(tree, MIDDLE)
        self.assertEqual(sorted([first, piece_at(tree, point((7, 2), 1, HALF))]), [0, 1])
        for place in (point(0, 0, 0), point(2, HALF, HALF), point(1, HALF, HALF), point(9, 9, 9)):
            self.assertIsNone(piece_at(tree, place))
        self.assert_same(piece_at("in", MIDDLE), 0)
        self.assertIsNone(piece_at("out", MIDDLE))
        # Where two pieces touch, the point reads "on".
        for expression in (TWO_IN_AN_EDGE, TWO_IN_A_CORNER):
            self.assertIsNone(piece_at(kept_tree(expression), point(1, 1, 1)))

    def test_points_on_walls(self):
        ring = kept_tree(RING)
        on_walls = 0
        for place in points_of(RING, 55, 60) + [point(1, HALF, HALF), point(2, HALF, HALF), point(HALF, 1, HALF), point(HALF, 2, HALF)]:
            reads_in = read_tree(ring, place) == "in"
            on_walls += reads_in and not any(holds(conditions, place) for conditions in in_cells(ring))
            self.assert_same(piece_at(ring, place), 0 if reads_in else None)
        self.assertGreater(on_walls, 1)
        # Points on the plane z = 1, on which one piece has a wall inside and the other its face.
        two = kept_tree(("join", box(point(0, 0, 0), point(1, 1, 2)), box(point(3, 0, 0), point(4, 1, 1))))
        other = piece_at(two, point((7, 2), HALF, HALF))
        self.assertEqual(piece_at(two, point(HALF, HALF, 1)), 1 - other)
        self.assertIsNone(piece_at(two, point((7, 2), HALF, 1)))

    def test_by_definition(self):
        found = 0
        for seed, tree in enumerate(all_trees(56, 15)):
            chooser = random.Random(seed)
            listed, groups = cells(tree), pieces(tree)
            for place in telling_points(tree_planes(tree), chooser, 12) + cell_points(tree):
                number = piece_at(tree, place)
                if read_tree(tree, place) != "in":
                    self.assertIsNone(number)
                    continue
                found += 1
                for k, group in enumerate(groups):
                    here = any(holds(closed(listed[cell][0]), place) for cell in group)
                    self.assertIs(here, k == number)
        self.assertGreater(found, 100)

    def test_chains_of_segments(self):
        """Points of cells that share a wall can be joined by segments whose points all read "in"."""
        for tree in (kept_tree(RING), CUBES_TREE, kept_tree(TWO_IN_PART_OF_A_FACE)):
            inner = cell_points(tree)
            marks = [mark for conditions, mark in cells(tree)]
            for plane, bounds, front, back in walls(tree):
                if marks[front] == marks[back] == "in":
                    self.assertEqual(piece_at(tree, inner[front]), piece_at(tree, inner[back]))


class TestPieceTrees(SpaceTest):

    def test_the_join_of_all_pieces_is_the_solid(self):
        for tree in all_trees(57, 15):
            parts = [piece_tree(tree, number) for number in range(len(pieces(tree)))]
            whole = "out"
            for k, part in enumerate(parts):
                self.assertIs(is_kept(part), True)
                self.assertIs(is_empty(part), False)
                self.assertIs(within(part, tree), True)
                self.assertEqual(len(pieces(part)), 1)
                for other in parts[:k]:
                    self.assert_same(meet_trees(part, other), "out")
                whole = join_trees(whole, part)
            self.assert_same(whole, tree)

    def test_its_readings(self):
        for seed, tree in enumerate(all_trees(58, 10)):
            inner = cell_points(tree)
            for number, group in enumerate(pieces(tree)):
                part = piece_tree(tree, number)
                self.assertEqual(
                    [read_tree(part, place) for place in inner], ["in" if k in group else "out" for k in range(len(inner))])

    def test_volumes_add_up(self):
        for expression in BOUNDED.values():
            tree = kept_tree(expression)
            total = (0, 1)
            for number in range(len(pieces(tree))):
                total = add(total, volume_by_cells(piece_tree(tree, number)))
            self.assert_same(total, volume_by_cells(tree))

    def test_known_trees(self):
        two = kept_tree(TWO_IN_A_CORNER)
        self.assertEqual(
            sorted([piece_tree(two, 0), piece_tree(tree=two, number=1)]), sorted([CUBE_TREE, kept_tree(box(point(1, 1, 1), point(2, 2, 2)))]))
        self.assert_same(piece_tree("in", 0), "in")
        self.assert_same(piece_tree(CUBE_TREE, 0), CUBE_TREE)


class TestFilling(SpaceTest):

    def test_known_solids(self):
        for expression, filled in (
                (SHELL, box(point(0, 0, 0), point(3, 3, 3))), (CUBE, CUBE), (RING, RING), (("outside", CUBE), FULL), (FULL, FULL),
                (("take", CUBE, CUBE), ("empty",)), (("outside", TWO_IN_AN_EDGE), FULL), (("outside", RING), FULL),
                (NESTED, around(3)), (("outside", NESTED), FULL), (("take", around(3), around(1)), around(3)),
                (("half", Z0, 1), ("half", Z0, 1)),
                (("take", ("half", Z0, 1), box(point(0, 0, 1), point(1, 1, 2))), ("half", Z0, 1)),
                (("take", ("half", Z0, 1), CUBE), ("take", ("half", Z0, 1), CUBE))):
            self.assert_same(fill_hollows(kept_tree(expression)), kept_tree(filled))

    def test_by_definition(self):
        filled = 0
        for tree in all_trees(59, 15):
            found = fill_hollows(tree)
            self.assertIs(is_kept(found), True)
            inner = [number for group in hollows(tree) for number in group]
            marks = [mark for conditions, mark in cells(tree)]
            self.assertEqual(
                [read_tree(found, place) for place in cell_points(tree)],
                ["in" if mark == "in" or k in inner else "out" for k, mark in enumerate(marks)])
            self.assert_same(hollows(found), [])
            self.assertIs(same_solid(found, tree), not inner)
            filled += bool(inner)
        self.assertGreater(filled, 5)

    def test_outside_of_a_bounded_piece(self):
        hollow = take_trees(fill_hollows(SHELL_TREE), SHELL_TREE)
        self.assert_same(hollow, kept_tree(box(point(1, 1, 1), point(2, 2, 2))))


class TestTooLarge(SpaceTest):

    def test_a_piece_with_too_many_nodes(self):
        """A solid may have 60 nodes or fewer, and one of its pieces more than that."""
        tree = kept_tree(SPREAD)
        self.assertIs(is_kept(tree), True)
        self.assertEqual((node_count(tree), len(tree_planes(tree)), len(pieces(tree))), (31, 12, 2))
        self.assert_error("TooLarge", piece_tree, tree, 0, what="nodes")
        self.assertEqual(node_count(piece_tree(tree, 1)), 6)
        # All else is told of such a solid.
        self.assert_same(hollows(tree), [])
        self.assert_same(fill_hollows(tree), tree)
        self.assertIs(is_bend(tree, convex_witness(tree)), True)

    def test_a_filling_with_too_many_nodes(self):
        tree = outside_tree(kept_tree(SPREAD))
        self.assertEqual(len(hollows(tree)), 1)
        self.assert_error("TooLarge", fill_hollows, tree, what="nodes")

    def test_the_limit_is_that_of_kept_trees(self):
        self.assertEqual(MOST_NODES, 60)
        self.assertEqual(node_count(fill_hollows(layered_kept())), 52)


class TestConvex(SpaceTest):

    def assert_bend(self, tree, told):
        p, q, r = told
        self.assertIs(type(told), tuple)
        self.assertTrue(all(is_vector(part) for part in told))
        self.assertEqual([read_tree(tree, part) for part in told], ["in", "in", "out"])
        self.assertIs(strictly_between(p, q, r), True)
        self.assertIs(is_bend(tree, told), True)

    def test_convex_solids(self):
        trees = [kept_tree(expression) for expression in CONVEX.values()] + ["in", "out", (Z0, "in", "out"), (Z0, "out", "in")]
        trees += [kept_tree(NOT_BOUNDED[name]) for name in ("quarter", "layer", "pillar", "cone", "half", "full")]
        for tree in trees:
            self.assertIsNone(convex_witness(tree))

    def test_bent_solids(self):
        trees = [kept_tree(expression) for expression in BENT.values()] + [CUBES_TREE, outside_tree(CUBES_TREE)]
        trees += [kept_tree(NOT_BOUNDED[name]) for name in ("outside of a shell", "cube and half")]
        trees += [(Y0, (X0, "in", "out"), (X0, "out", "in")), (Y0, (X0, "in", "out"), "in")]
        for tree in trees:
            self.assert_bend(tree, convex_witness(tree))

    def test_convex_exactly_without_a_bend(self):
        """A solid is convex if and only if it is the meet of the inner halves of its faces."""
        told = {True: 0, False: 0}
        for tree in all_trees(60, 40) + [tree for expression, tree in some_bodies(61, 15)]:
            outer = [(plane, -inner) for plane, inner, bounds in faces(tree)]
            convex = not any(has_point(conditions + [half]) for conditions in in_cells(tree) for half in outer)
            witness = convex_witness(tree)
            self.assertIs(witness is None, convex)
            if witness is not None:
                self.assert_bend(tree, witness)
            told[convex] += 1
        self.assertGreater(min(told.values()), 15)

    def test_moved_solids(self):
        for move in (mirror_axis(2), make_move([[1, 2, 0], [0, 1, (1, 2)], [1, 0, -2]], [1, -1, 0])):
            for expression in (CUBE, GEM, SHELL, TWO_APART):
                tree = move_tree(move, kept_tree(expression))
                witness = convex_witness(tree)
                self.assertIs(witness is None, expression in (CUBE, GEM))
                if witness is not None:
                    self.assert_bend(tree, witness)

    def test_the_same_again(self):
        for expression in BENT.values():
            tree = kept_tree(expression)
            self.assert_same(convex_witness(tree), convex_witness(tree))

    def test_convex_solids_have_no_bend(self):
        chooser = random.Random(62)
        for expression in CONVEX.values():
            tree = kept_tree(expression)
            places = [place for place in telling_points(planes_of(expression), chooser, 20) if read_tree(tree, place) == "in"]
            for p in places + cell_points(tree):
                for q in places:
                    self.assertIs(is_bend(tree, (p, q, blend(p, q, HALF))), False)


class TestIsBend(SpaceTest):

    def test_plain_values(self):
        for tree in ("in", "out", CUBE_TREE, SHELL_TREE):
            self.assert_takes_plain_values(is_bend, tree)

    def test_triples(self):
        p, q, r = point(HALF, HALF, HALF), point((7, 2), HALF, HALF), point(2, HALF, HALF)
        tree = kept_tree(TWO_APART)
        on = point(1, HALF, HALF)
        for value, wanted in (
                ((p, q, r), True), ((q, p, r), True), ((p, r, q), False), ((r, p, q), False), ([p, q, r], False), ((p, q), False), ((p, q, r, r), False),
                # The point between reads "on", or "in"; or it is an end.
                ((p, q, on), False), ((p, q, point((3, 4), HALF, HALF)), False), ((p, q, p), False), ((p, q, q), False), ((p, p, r), False), ((p, p, p), False),
                # An end that reads "out" or "on".
                ((p, point(5, HALF, HALF), r), False), ((point(-1, HALF, HALF), q, r), False), ((on, q, r), False), ((p, point(3, HALF, HALF), r), False),
                # A point that reads "out", but is not between: off the line, or behind an end.
                ((p, q, point(2, (2, 3), HALF)), False), ((p, q, point(5, HALF, HALF)), False), ((p, q, point(-1, HALF, HALF)), False),
                # No points.
                ((p, q, list(r)), False), ((p, q, None), False), ((p, q, (2, HALF, HALF)), False), ((p, q, ((4, 2), HALF, HALF)), False),
                ((p, q, r[:2]), False), ((p, q, ((2, True), HALF, HALF)), False), ((None, None, None), False)):
            self.assertIs(is_bend(tree, value), wanted, value)
        self.assertIs(is_bend(value=(p, q, r), tree=tree), True)
        self.assertIs(is_bend("in", (p, q, r)), False)
        self.assertIs(is_bend("out", (p, q, r)), False)

    def test_through_the_place_where_bodies_touch(self):
        tree = kept_tree(TWO_IN_A_CORNER)
        p, q = point(HALF, HALF, HALF), point((3, 2), (3, 2), (3, 2))
        self.assertIs(is_bend(tree, (p, q, point(1, 1, 1))), False)
        for t in range(1, 20):
            self.assertIs(is_bend(tree, (p, q, blend(p, q, (t, 20) if t != 10 else HALF))), False)
        q = point((3, 2), (3, 2), (7, 4))
        self.assertIs(is_bend(tree, (p, q, point(1, 1, (9, 8)))), False)
        q = point((3, 2), (5, 4), (7, 4))
        self.assertIs(is_bend(tree, (p, q, blend(p, q, HALF))), True)


if __name__ == "__main__":
    unittest.main()
