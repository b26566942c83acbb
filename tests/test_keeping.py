"""Points 30 to 32; the fact of point 27 for kept trees; points 65 and 66 as far as they speak of rows and trees."""

import random
import unittest

from everypoint.expressions import depth, planes_of, size
from everypoint.keeping import (
    difference_point, inner_point, is_empty, is_full, join_trees, keep, kept_tree, meet_trees, move_tree,
    outer_point, outlying_point, outside_tree, same_solid, take_trees, within)
from everypoint.moves import STILL, inverse, make_move, mirror_axis, moved_point, quarter_turn, scale_by, shift_by
from everypoint.planes import side_of
from everypoint.reading import read_expression, truth_rows
from everypoint.trees import cells, is_reduced, node_count, read_tree, tree_depth, tree_expression, tree_planes
from everypoint.vectors import is_vector
from everypoint.walls import is_kept
from samples import (
    BOUNDED, CHECKERED, CORNERED, CUBE, EMPTY, FULL, GEM, NOT_BOUNDED, SHELL, TWO_APART, TWO_IN_A_CORNER, TWO_IN_A_FACE,
    chequered_tree, layered_tree, levels, points_of, some_body, some_expression, some_kept_trees, some_planes, some_point, stripes, xor)
from support import X0, Y0, Z0, SpaceTest, nested, plane_at, point

A, B, C = ("half", X0, 1), ("half", Y0, 1), ("half", Z0, 1)
LAYER = ((0, 0, 1, -2), "out", (Z0, "in", "out"))
# The kept tree has 52 nodes, and that of the solid with the axes 0 and 2 exchanged has 76.
LAYERED = layered_tree(2, 1, 0)
EXCHANGE = make_move([[0, 0, 1], [0, 1, 0], [1, 0, 0]], [0, 0, 0])
MOVES = [
    shift_by(point((1, 2), 0, -3)), scale_by(point(2, (-1, 3), 1)), mirror_axis(0), quarter_turn(0), quarter_turn(1, 2),
    EXCHANGE, make_move([[1, 2, 0], [0, 1, (1, 2)], [1, 0, -2]], [1, -1, 0])]


def tree_by_definition(planes, rows):
    """Point 30 as it stands, for a list of truth rows."""
    def shows(at):
        return any(
            one[0][at] != other[0][at] and one[1] != other[1] and
            all(one[0][k] == other[0][k] for k in range(len(planes)) if k != at) for one in rows for other in rows)
    for at, plane in enumerate(planes):
        if shows(at):
            return (plane, tree_by_definition(planes, [row for row in rows if row[0][at] == 1]),
                    tree_by_definition(planes, [row for row in rows if row[0][at] == -1]))
    return "in" if rows[0][1] else "out"


def levels_joined(count, axis=2):
    """A join of halves with this many parallel planes, of small depth."""
    parts = [("half", plane_at(axis, k), 1) for k in range(count)]
    while len(parts) > 1:
        parts = [("join", *parts[k:k + 2]) if k + 1 < len(parts) else parts[k] for k in range(0, len(parts), 2)]
    return parts[0]


def deep_stripes(axis):
    """The solid of stripes, of the same size, but one step deeper."""
    return ("meet", ("half", plane_at(axis, 0), 1), (
        "join", ("half", plane_at(axis, 1), -1), (
            "meet", ("half", plane_at(axis, 2), 1), ("half", plane_at(axis, 3), -1))))


def full_leaves(count):
    if count == 1:
        return FULL
    return ("meet", full_leaves(count // 2), full_leaves(count - count // 2))


def tree_of_levels(places, axis=2):
    """The kept tree of every second layer between planes across the axis."""
    tree, mark = "out", "in"
    for place in sorted(places):
        tree, mark = (plane_at(axis, place), mark, tree), "in" if mark == "out" else "out"
    return tree


class TestKeptTree(SpaceTest):

    def test_known_trees(self):
        for expression, tree in (
                (EMPTY, "out"), (FULL, "in"), (C, (Z0, "in", "out")), (("half", Z0, -1), (Z0, "out", "in")),
                (("join", C, ("half", Z0, -1)), "in"), (("meet", C, ("half", Z0, -1)), "out"),
                (("meet", C, ("half", (0, 0, 1, -2), -1)), LAYER), (("outside", C), (Z0, "out", "in")),
                (("take", A, A), "out"), (("meet", A, B), (Y0, (X0, "in", "out"), "out")),
                (("join", A, B), (Y0, "in", (X0, "in", "out"))),
                (("join", ("meet", A, B), ("meet", A, ("outside", B))), (X0, "in", "out")),
                (xor(A, B), (Y0, (X0, "out", "in"), (X0, "in", "out"))),
                (("move", quarter_turn(0, 2), C), (Z0, "out", "in")), (("move", shift_by(point(0, 0, 2)), C), (
                    (0, 0, 1, -2), "in", "out"))):
            self.assert_same(kept_tree(expression), tree, expression)
            self.assert_same(keep(tree), tree)

    def test_as_the_definition_says(self):
        chooser = random.Random(1)
        for expression, tree in some_kept_trees(
                chooser, lambda: some_expression(chooser, some_planes(chooser, 4, 2), 7), 40):
            self.assert_same(tree, tree_by_definition(planes_of(expression), truth_rows(expression)))

    def test_kept_trees_are_kept(self):
        chooser = random.Random(2)
        made = some_kept_trees(chooser, lambda: some_expression(chooser, some_planes(chooser, 6), 9), 40)
        made += [(expression, kept_tree(expression)) for expression in list(BOUNDED.values()) + list(NOT_BOUNDED.values())]
        for expression, tree in made:
            self.assertIs(is_kept(tree), True)
            self.assertIs(is_reduced(tree), True)
            self.assertLessEqual(tree_depth(tree), len(tree_planes(tree)))
            self.assertLessEqual(set(tree_planes(tree)), set(planes_of(expression)))
            self.assert_same(keep(tree), tree)
            # The kept tree of the expression of a kept tree, where point 21 allows that expression.
            told = tree_expression(tree)
            if size(told) <= 64 and tree_depth(tree) <= 7:
                self.assert_same(kept_tree(told), tree)

    def test_against_the_plain_reading(self):
        chooser = random.Random(3)
        told = {}
        made = some_kept_trees(chooser, lambda: some_expression(chooser, some_planes(chooser, 5), 8), 40)
        made += some_kept_trees(
            chooser, lambda: (chooser.choice(("join", "meet", "take")), some_body(chooser), some_body(chooser)), 15)
        made += some_kept_trees(
            chooser, lambda: ("move", chooser.choice(MOVES), some_expression(chooser, some_planes(chooser, 4, 1), 6)), 15)
        made += [(expression, kept_tree(expression)) for expression in list(BOUNDED.values()) + list(NOT_BOUNDED.values())]
        for seed, (expression, tree) in enumerate(made):
            for place in points_of(expression, seed, 25):
                wanted = read_expression(expression, place)
                self.assertEqual(read_tree(tree, place), wanted, (expression, place))
                told[wanted] = told.get(wanted, 0) + 1
        self.assertGreater(min(told.values()), 200)

    def test_reading_of_the_tree_by_its_expression(self):
        for expression in BOUNDED.values():
            tree = kept_tree(expression)
            for place in points_of(expression, 4, 10):
                self.assertEqual(read_expression(tree_expression(tree), place), read_tree(tree, place))

    def test_alike_expressions_have_equal_trees(self):
        chooser = random.Random(5)
        for _ in range(25):
            x, y, z = [some_expression(chooser, some_planes(chooser, 3), 3) for _ in range(3)]
            move = chooser.choice(MOVES)
            for first, second in (
                    (("take", x, y), ("meet", x, ("outside", y))), (("join", x, y), ("join", y, x)),
                    (("outside", ("join", x, y)), ("meet", ("outside", x), ("outside", y))),
                    (("meet", x, ("join", y, z)), ("join", ("meet", x, y), ("meet", x, z))),
                    (x, ("join", x, ("meet", x, y))), (x, ("outside", ("outside", x))), (x, ("meet", x, ("outside", ("take", y, y)))),
                    (("move", move, ("join", x, y)), ("join", ("move", move, x), ("move", move, y))),
                    (x, ("move", inverse(move), ("move", move, x))), (EMPTY, ("take", x, x)), (FULL, ("join", x, ("outside", x)))):
                self.assert_same(kept_tree(first), kept_tree(second))

    def test_unlike_expressions_have_unlike_trees(self):
        trees = [kept_tree(expression) for expression in list(BOUNDED.values())[:-1] + list(NOT_BOUNDED.values())]
        self.assertEqual(len(set(trees)), len(trees))
        self.assertEqual(kept_tree(BOUNDED["cube in pieces"]), kept_tree(CUBE))

    def test_planes_show_only_where_they_part(self):
        """No plane of which no point reads "on" stands in a kept tree."""
        self.assertEqual(tree_planes(kept_tree(TWO_IN_A_FACE)), sorted(
            [Z0, plane_at(2, 1), Y0, plane_at(1, 1), X0, plane_at(0, 2)]))
        self.assertEqual(node_count(kept_tree(CUBE)), 6)
        for expression in BOUNDED.values():
            tree = kept_tree(expression)
            places = points_of(tree_expression(tree), 6, 400)
            for plane in tree_planes(tree):
                self.assertTrue(any(
                    read_tree(tree, place) == "on" for place in places if side_of(plane, place) == 0))


class TestTooLarge(SpaceTest):

    def assert_too_large(self, what, call, *arguments):
        self.assert_error("TooLarge", call, *arguments, what=what)

    def test_at_the_limits(self):
        self.assert_same(kept_tree(("meet", C, full_leaves(31))), (Z0, "in", "out"))
        self.assertEqual(size(("outside", ("meet", C, full_leaves(31)))), 64)
        self.assert_same(kept_tree(("outside", ("meet", C, full_leaves(31)))), (Z0, "out", "in"))
        self.assert_same(kept_tree(nested(15, C, lambda x: ("outside", x))), (Z0, "out", "in"))
        self.assert_same(kept_tree(levels_joined(12)), (Z0, "in", "out"))

    def test_sixty_nodes_and_one_more(self):
        floor = chequered_tree(levels(1), levels(0))
        slabs = [floor, tree_of_levels(range(4), 1), floor, tree_of_levels(range(2), 1)]
        tree = tree_of_levels((2, 3), 1)
        for plane, slab in zip(reversed(levels(2)), reversed(slabs)):
            tree = (plane, slab, tree)
        self.assertEqual((node_count(tree), is_kept(tree), len(tree_planes(tree))), (60, True, 12))
        # Below z = 0 the tree has two nodes; what is joined there makes them three.
        corner = kept_tree(("meet", ("half", Z0, -1), ("half", Y0, -1)))
        self.assert_same(keep(tree), tree)
        self.assert_same(join_trees(tree, "out"), tree)
        self.assert_same(take_trees(tree, corner), tree)
        self.assert_same(move_tree(STILL, tree), tree)
        self.assert_same(move_tree(shift_by(point(0, 0, 5)), move_tree(shift_by(point(0, 0, -5)), tree)), tree)
        self.assert_too_large("nodes", join_trees, tree, corner)
        self.assert_too_large("nodes", join_trees, corner, tree)
        self.assert_too_large("nodes", meet_trees, outside_tree(tree), outside_tree(corner))
        self.assert_too_large("nodes", take_trees, outside_tree(tree), corner)

    def test_each_word_alone(self):
        self.assert_too_large("size", kept_tree, full_leaves(33))
        self.assert_too_large("depth", kept_tree, nested(16, C, lambda x: ("outside", x)))
        self.assert_too_large("planes", kept_tree, levels_joined(13))
        self.assert_too_large("nodes", kept_tree, CHECKERED)

    def test_planes_that_the_result_does_not_need_count(self):
        self.assert_too_large("planes", kept_tree, ("take", EMPTY, levels_joined(13)))
        self.assert_too_large("planes", kept_tree, ("join", FULL, ("join", levels_joined(12), A)))
        self.assert_same(kept_tree(("take", EMPTY, levels_joined(12))), "out")

    def test_words_together(self):
        deep = nested(16, levels_joined(13), lambda x: ("outside", x))
        self.assert_too_large("depth", kept_tree, deep)
        self.assert_too_large("size", kept_tree, nested(70, C, lambda x: ("outside", x)))
        self.assert_too_large("size", kept_tree, ("join", full_leaves(30), levels_joined(13)))
        self.assert_too_large("planes", kept_tree, ("join", CHECKERED, ("half", plane_at(2, 9), 1)))
        self.assert_too_large("size", kept_tree, ("join", CHECKERED, full_leaves(5)))
        # Of size 64; with stripes that are nested one step deeper, the depth is 17 instead of 16.
        self.assert_too_large("nodes", kept_tree, nested(9, CHECKERED, lambda x: ("outside", x)))
        deeper = ("join", ("meet", xor(deep_stripes(0), stripes(1)), stripes(2)), ("take", stripes(0), stripes(2)))
        self.assertEqual((size(deeper), depth(deeper)), (55, 8))
        self.assert_too_large("nodes", kept_tree, deeper)
        self.assert_too_large("depth", kept_tree, nested(9, deeper, lambda x: ("outside", x)))

    def test_keep(self):
        # The same layers with the axes exchanged, so that this tree is not kept.
        tree = layered_tree(0, 1, 2)
        self.assertEqual((node_count(tree), len(tree_planes(tree)), is_kept(tree)), (52, 12, False))
        self.assert_too_large("nodes", keep, tree)
        self.assert_same(keep(LAYERED), LAYERED)

    def test_keep_has_no_other_limits(self):
        # The expression of this tree has 361 nodes and depth 33.
        corners = (X0, (Y0, (Z0, "in", "out"), (Z0, "out", "in")), (Y0, (Z0, "out", "in"), (Z0, "in", "out")))
        tree = "in"
        for k in range(16):
            side = corners if 3 <= k <= 8 else (X0, "in", (Y0, "in", "out")) if k == 9 else "out"
            tree = (plane_at(2, k % 9), tree, side) if k % 2 else (plane_at(2, k % 9), side, tree)
        self.assertEqual((node_count(tree), tree_depth(tree), len(tree_planes(tree))), (60, 16, 11))
        self.assertEqual((size(tree_expression(tree)), depth(tree_expression(tree))), (361, 33))
        self.assertIs(is_kept(keep(tree)), True)
        self.assertEqual(
            keep(tree), tree_by_definition(tree_planes(tree), truth_rows(tree_expression(tree))))

    def test_deeds(self):
        seven, six = tree_of_levels(range(7)), tree_of_levels(range(7, 13))
        for deed in (join_trees, meet_trees, take_trees):
            self.assert_too_large("planes", deed, seven, six)
            self.assert_too_large("planes", deed, LAYERED, (plane_at(0, 9), "in", "out"))
            deed(seven, tree_of_levels(range(2, 12)))
            deed(LAYERED, LAYERED)
        checkered = kept_tree(("meet", xor(stripes(0), stripes(1)), stripes(2)))
        rest = kept_tree(("take", stripes(0), stripes(2)))
        self.assert_too_large("nodes", join_trees, checkered, rest)
        self.assert_too_large("nodes", meet_trees, outside_tree(checkered), outside_tree(rest))
        self.assert_too_large("nodes", take_trees, outside_tree(checkered), rest)

    def test_planes_of_deeds_that_the_result_does_not_need_count(self):
        seven, six = tree_of_levels(range(7)), tree_of_levels(range(-6, 0))
        self.assert_same(read_tree(six, point(0, 0, 20)), "out")
        # All of them are empty but the join, or at least simple.
        self.assert_too_large("planes", take_trees, seven, six)
        self.assert_too_large("planes", meet_trees, tree_of_levels(range(6)), tree_of_levels(range(10, 17)))
        self.assert_same(join_trees("in", seven), "in")
        self.assert_same(take_trees("out", LAYERED), "out")

    def test_moving(self):
        self.assertEqual((node_count(LAYERED), is_kept(LAYERED)), (52, True))
        self.assert_too_large("nodes", move_tree, EXCHANGE, LAYERED)
        self.assertEqual(node_count(move_tree(quarter_turn(2, 2), LAYERED)), 52)

    def test_the_outside_raises_nothing(self):
        self.assertEqual(node_count(outside_tree(LAYERED)), 52)


class TestDeeds(SpaceTest):

    def test_known_deeds(self):
        x, z = (X0, "in", "out"), (Z0, "in", "out")
        self.assert_same(join_trees(x, z), (Z0, "in", (X0, "in", "out")))
        self.assert_same(meet_trees(x, z), (Z0, (X0, "in", "out"), "out"))
        self.assert_same(take_trees(x, z), (Z0, "out", (X0, "in", "out")))
        self.assert_same(take_trees(z, x), (Z0, (X0, "out", "in"), "out"))
        self.assert_same(outside_tree(x), (X0, "out", "in"))
        self.assert_same(outside_tree(LAYER), ((0, 0, 1, -2), "in", (Z0, "out", "in")))
        self.assert_same(join_trees(x, outside_tree(x)), "in")
        self.assert_same(meet_trees(x, outside_tree(x)), "out")
        self.assert_same(take_trees(x, x), "out")
        for tree in (x, LAYER, "in", "out"):
            self.assert_same(join_trees(tree, "out"), tree)
            self.assert_same(join_trees("out", tree), tree)
            self.assert_same(join_trees("in", tree), "in")
            self.assert_same(meet_trees(tree, "in"), tree)
            self.assert_same(meet_trees("out", tree), "out")
            self.assert_same(take_trees(tree, "out"), tree)
            self.assert_same(take_trees("in", tree), outside_tree(tree))
            self.assert_same(take_trees(tree, "in"), "out")
            self.assert_same(outside_tree(outside_tree(tree)), tree)
            self.assert_same(join_trees(tree, tree), tree)

    def test_deeds_on_trees_are_deeds_on_expressions(self):
        """Also where both parts read "on"."""
        chooser = random.Random(7)
        pairs = [
            (CUBE, CORNERED), (CUBE, ("move", shift_by(point(1, 0, 0)), CUBE)), (TWO_IN_A_CORNER, CUBE), (SHELL, CUBE),
            (GEM, ("meet", A, ("half", plane_at(0, 1), -1))), (C, ("outside", C)), (EMPTY, CUBE), (CUBE, FULL)]
        for _ in range(20):
            planes = some_planes(chooser, 6)
            pairs.append((some_expression(chooser, planes, 5), some_expression(chooser, planes[2:], 5)))
        for first, second in pairs:
            one, other = kept_tree(first), kept_tree(second)
            for deed, word in ((join_trees, "join"), (meet_trees, "meet"), (take_trees, "take")):
                tree = deed(one, other)
                self.assert_same(tree, kept_tree((word, first, second)))
                self.assertIs(is_kept(tree), True)
            self.assert_same(outside_tree(one), kept_tree(("outside", first)))

    def test_moving(self):
        chooser = random.Random(8)
        for move in MOVES:
            for expression in (CUBE, GEM, TWO_APART, C, EMPTY, some_expression(chooser, some_planes(chooser, 5), 6)):
                tree = kept_tree(expression)
                moved = move_tree(move, tree)
                self.assert_same(moved, kept_tree(("move", move, expression)))
                for place in points_of(expression, 9, 6):
                    self.assertEqual(read_tree(moved, moved_point(move, place)), read_tree(tree, place))
                self.assert_same(move_tree(inverse(move), moved), tree)

    def test_moved_nodes_can_stand_in_another_order(self):
        tree = (Z0, (X0, "in", "out"), "out")
        self.assert_same(move_tree(EXCHANGE, tree), (Z0, (X0, "in", "out"), "out"))
        wedge = (Z0, (Y0, "in", "out"), "out")
        self.assert_same(move_tree(EXCHANGE, wedge), (Y0, (X0, "in", "out"), "out"))
        self.assert_same(move_tree(make_move([[1, 0, 0], [0, 0, 1], [0, 1, 0]], [0, 0, 0]), wedge), wedge)
        self.assert_same(move_tree(mirror_axis(2), wedge), (Z0, "out", (Y0, "in", "out")))
        bent = (Z0, "in", (Y0, (X0, "in", "out"), "out"))
        self.assertIs(is_kept(bent), True)
        self.assert_same(
            move_tree(EXCHANGE, bent), (Z0, (Y0, "in", (X0, "in", "out")), (X0, "in", "out")))


class TestPoints(SpaceTest):

    def test_inner_and_outer_points(self):
        chooser = random.Random(10)
        made = some_kept_trees(chooser, lambda: some_expression(chooser, some_planes(chooser, 5), 7), 20)
        trees = [tree for expression, tree in made] + [kept_tree(expression) for expression in BOUNDED.values()]
        for tree in trees + [LAYERED, "in", "out"]:
            inner, outer = inner_point(tree), outer_point(tree)
            self.assertIs(inner is None, tree == "out")
            self.assertIs(outer is None, tree == "in")
            if inner is not None:
                self.assertIs(is_vector(inner), True)
                self.assertEqual(read_tree(tree, inner), "in")
            if outer is not None:
                self.assertIs(is_vector(outer), True)
                self.assertEqual(read_tree(tree, outer), "out")

    def test_empty_and_full(self):
        for tree, empty, full in (("out", True, False), ("in", False, True), (LAYER, False, False)):
            self.assertIs(is_empty(tree), empty)
            self.assertIs(is_full(tree), full)


class TestComparing(SpaceTest):

    def assert_compared(self, first, second, is_within):
        """within, outlying points and difference points of two trees, by what is told of the points."""
        self.assertIs(within(first, second), is_within, (first, second))
        outlying = outlying_point(first, second)
        self.assertIs(outlying is None, is_within)
        if outlying is not None:
            self.assertEqual((read_tree(first, outlying), read_tree(second, outlying)), ("in", "out"))
        self.assertIs(same_solid(first, second), first == second)
        different = difference_point(first, second)
        self.assertIs(different is None, first == second)
        if different is not None:
            self.assertEqual({read_tree(first, different), read_tree(second, different)}, {"in", "out"})

    def test_known_solids(self):
        small, large = kept_tree(CUBE), kept_tree(BOUNDED["ring"])
        cube_in_shell = kept_tree(("move", shift_by(point(1, 1, 1)), CUBE))
        shell = kept_tree(SHELL)
        for first, second, is_within in (
                ("out", "out", True), ("out", "in", True), ("in", "in", True), ("in", "out", False), ("out", small, True),
                (small, "in", True), ("in", small, False), (small, "out", False), (small, small, True),
                (small, large, True), (large, small, False), (small, kept_tree(TWO_IN_A_FACE), True),
                (cube_in_shell, shell, False), (shell, cube_in_shell, False), (cube_in_shell, outside_tree(shell), True),
                (shell, outside_tree(cube_in_shell), True), (shell, outside_tree(shell), False),
                # They share their frontier, and no point reads "in" for the one and "out" for the other.
                (kept_tree(("meet", CUBE, A)), small, True)):
            self.assert_compared(first, second, is_within)

    def test_many_pairs(self):
        chooser = random.Random(11)
        told = {True: 0, False: 0}
        for _ in range(60):
            planes = some_planes(chooser, 4, 1)
            first = some_expression(chooser, planes, 4)
            second = some_expression(chooser, planes, 5)
            if chooser.random() < 0.5:
                second = ("join", first, second)
            one, other = kept_tree(first), kept_tree(second)
            is_within = kept_tree(("take", first, second)) == "out"
            self.assert_compared(one, other, is_within)
            told[is_within] += 1
        self.assertGreater(min(told.values()), 15)

    def test_more_than_twelve_planes_together(self):
        low = tree_of_levels(range(12))
        across = tree_of_levels(range(11), 0)
        self.assertEqual(len(set(tree_planes(low) + tree_planes(across))), 23)
        self.assert_compared(low, across, False)
        self.assert_compared(across, low, False)
        self.assert_compared(LAYERED, move_tree(shift_by(point((1, 2), (1, 2), (1, 2))), LAYERED), False)
        gem = kept_tree(GEM)
        self.assert_compared(gem, kept_tree(("move", scale_by(point(2, 2, 2)), GEM)), True)
        self.assert_compared(gem, kept_tree(("move", shift_by(point(9, 9, 9)), GEM)), False)
        self.assert_compared(
            kept_tree(CUBE), kept_tree(("move", shift_by(point(0, 0, (1, 3))), ("move", scale_by(point(1, 1, (1, 3))), CUBE))),
            False)
        wide = kept_tree(("meet", ("meet", A, B), C))
        self.assert_compared(kept_tree(("move", shift_by(point(4, 4, 4)), GEM)), wide, True)

    def test_the_largest_trees(self):
        self.assert_compared(LAYERED, LAYERED, True)
        self.assert_compared(LAYERED, outside_tree(LAYERED), False)
        self.assert_compared(tree_of_levels(range(12)), LAYERED, False)


class TestSizes(SpaceTest):

    def test_neighbouring_rows_chain_all_rows(self):
        """Point 65: so a tree without a plane that shows has one mark."""
        chooser = random.Random(12)
        for _ in range(10):
            expression = some_expression(chooser, some_planes(chooser, 6), 8)
            rows = dict(truth_rows(expression))
            reached = [next(iter(rows))]
            for signs in reached:
                for at in range(len(signs)):
                    other = signs[:at] + (-signs[at],) + signs[at + 1:]
                    if other in rows and other not in reached:
                        reached.append(other)
            self.assertEqual(len(reached), len(rows))

    def test_twelve_planes_in_general_position(self):
        chooser = random.Random(13)
        planes = sorted(some_planes(chooser, 12, 40))
        meet = ("half", planes[0], 1)
        for plane in planes[1:]:
            meet = ("meet", meet, ("half", plane, 1))
        tree = kept_tree(meet)
        for (signs, told), place in zip(truth_rows(meet)[:3], [some_point(chooser, 90) for _ in range(3)]):
            self.assertEqual(read_tree(tree, place), read_expression(meet, place))
        self.assertLessEqual(tree_depth(tree), 12)
        self.assertEqual(len(cells(tree)), node_count(tree) + 1)


if __name__ == "__main__":
    unittest.main()
