"""Points 24 to 27, and 29 and 23 for the texts of trees."""

import itertools
import random
import unittest

from everypoint import trees
from everypoint.expressions import depth, is_expression, size, truth
from everypoint.planes import side_of
from everypoint.systems import has_point, holds, is_refutation, common_point, sign_rows
from everypoint.trees import (
    cell_points, cells, in_cells, is_reduced, is_tree, node_count, out_cells, parse_tree, read_tree, tree_depth,
    tree_expression, tree_planes, tree_text)
from everypoint.vectors import is_vector
from support import BIG, X0, Y0, Z0, SpaceTest, lists_in, nested, plane_at, point

LAYER = ((0, 0, 1, -2), "out", ((0, 0, 1, 0), "in", "out"))
QUARTER = (X0, (Y0, "in", "out"), "out")
# The second plane lies behind the first one, so it does not cut the cell of its node.
BESIDE = ((0, 0, 1, -2), ((0, 0, 1, 0), "in", "out"), "out")


def full_tree(planes, mark="in"):
    """The tree in which each way meets all the planes in turn; the marks of the leaves take turns."""
    if not planes:
        return mark
    return (planes[0], full_tree(planes[1:], "in"), full_tree(planes[1:], "out"))


def side_chain(count, planes=12):
    """A tree with this many nodes on one way, with the planes one after the other."""
    tree = "in"
    for k in range(count):
        tree = (plane_at(2, k % planes), tree, "out")
    return tree


def plain_reading(tree, place):
    """Point 19 for the expression of the tree, from the cones at the place."""
    expression = tree_expression(tree)
    planes = tree_planes(tree)
    told = []
    for signs in sign_rows(planes):
        if all(side_of(plane, place) in (0, sign) for plane, sign in zip(planes, signs)):
            told.append(truth(expression, dict(zip(planes, signs))))
    return "in" if all(told) else "on" if any(told) else "out"


def some_tree(chooser, planes, steps):
    if steps == 0 or chooser.random() < 0.2:
        return chooser.choice(("in", "out"))
    plane = chooser.choice(planes)
    return (plane, some_tree(chooser, planes, steps - 1), some_tree(chooser, planes, steps - 1))


class TestKinds(SpaceTest):

    def test_trees(self):
        for value in ("in", "out", LAYER, QUARTER, BESIDE, (X0, (X0, "in", "in"), "in"), side_chain(40)):
            self.assertIs(is_tree(value), True)

    def test_others(self):
        for value in (
                "on", "", "IN", "in ", None, True, 1, (), (X0,), (X0, "in"), (X0, "in", "out", "in"), [X0, "in", "out"],
                (list(X0), "in", "out"), ((0, 0, 2, 4), "in", "out"), ((-1, 0, 0, 0), "in", "out"), (X0, "in", "on"),
                (X0, ("in",), "out"), (X0, ["in"], "out"), (X0, "in", None), ("in", "in", "in"), (X0, X0, X0),
                ((True, 0, 0, 0), "in", "out"), (X0, "in", (X0, "in", (X0, "out", 0))), {}, {"in": 1}, ("in",), b"in"):
            self.assertIs(is_tree(value), False, value)

    def test_any_plain_value(self):
        deep = nested(58, "in", lambda value: (Z0, value, "out"))
        wide = nested(17, "in", lambda value: (Z0, value, value))
        self.assert_takes_plain_values(is_tree, right=["in", "out", (Z0, "in", "out"), deep, wide])

    def test_the_numbers(self):
        self.assert_same((trees.MOST_NODES, trees.MOST_TREE_DEPTH), (60, 16))


class TestMeasures(SpaceTest):

    def test_nodes_depth_and_planes(self):
        for tree, nodes, steps, planes in (
                ("in", 0, 0, []), ("out", 0, 0, []), (LAYER, 2, 2, [(0, 0, 1, -2), Z0]), (QUARTER, 2, 2, [Y0, X0]),
                ((X0, (X0, "in", "out"), (X0, "out", "in")), 3, 2, [X0]), (full_tree([X0, Y0, Z0]), 7, 3, [Z0, Y0, X0]),
                (side_chain(16), 16, 16, [plane_at(2, k) for k in range(11, -1, -1)])):
            self.assert_same(node_count(tree), nodes)
            self.assert_same(tree_depth(tree), steps)
            self.assert_same(tree_planes(tree), planes)
            self.assertEqual(len(cells(tree)), nodes + 1)


class TestCells(SpaceTest):

    def test_front_parts_come_first(self):
        self.assert_same(cells("in"), [([], "in")])
        self.assert_same(cells(LAYER), [
            ([((0, 0, 1, -2), 1)], "out"), ([((0, 0, 1, -2), -1), (Z0, 1)], "in"),
            ([((0, 0, 1, -2), -1), (Z0, -1)], "out")])
        self.assert_same(cells(QUARTER), [
            ([(X0, 1), (Y0, 1)], "in"), ([(X0, 1), (Y0, -1)], "out"), ([(X0, -1)], "out")])

    def test_equal_conditions_on_one_way_are_kept(self):
        tree = (X0, (X0, "in", "out"), (Y0, "in", (X0, "out", "in")))
        self.assert_same(cells(tree), [
            ([(X0, 1), (X0, 1)], "in"), ([(X0, 1), (X0, -1)], "out"), ([(X0, -1), (Y0, 1)], "in"),
            ([(X0, -1), (Y0, -1), (X0, 1)], "out"), ([(X0, -1), (Y0, -1), (X0, -1)], "in")])

    def test_cells_by_mark(self):
        self.assert_same(in_cells("in"), [[]])
        self.assert_same(out_cells("in"), [])
        self.assert_same(in_cells("out"), [])
        self.assert_same(out_cells("out"), [[]])
        chooser = random.Random(1)
        for _ in range(30):
            tree = some_tree(chooser, [X0, Y0, Z0, (1, 1, 1, -1)], 5)
            self.assert_same(in_cells(tree), [conditions for conditions, mark in cells(tree) if mark == "in"])
            self.assert_same(out_cells(tree), [conditions for conditions, mark in cells(tree) if mark == "out"])

    def test_no_list_stands_at_two_places(self):
        for told in (cells, in_cells, out_cells, tree_planes):
            found = lists_in(told(full_tree([X0, X0, Y0, Z0])))
            self.assertEqual(len({id(member) for member in found}), len(found))
            told(LAYER)[:] = []
            for member in lists_in(told(LAYER)):
                member.append("changed")
            self.assertNotIn("changed", repr(told(LAYER)))


class TestExpressions(SpaceTest):

    def test_expression_of_a_tree(self):
        self.assert_same(tree_expression("in"), ("full",))
        self.assert_same(tree_expression("out"), ("empty",))
        self.assert_same(tree_expression((X0, "in", "out")), (
            "join", ("meet", ("half", X0, 1), ("full",)), ("meet", ("half", X0, -1), ("empty",))))
        self.assert_same(tree_expression(QUARTER), (
            "join",
            ("meet", ("half", X0, 1), (
                "join", ("meet", ("half", Y0, 1), ("full",)), ("meet", ("half", Y0, -1), ("empty",)))),
            ("meet", ("half", X0, -1), ("empty",))))

    def test_sizes(self):
        """Point 66: an expression of a tree of n nodes has at most 6n + 1 nodes."""
        chooser = random.Random(2)
        for _ in range(30):
            tree = some_tree(chooser, [X0, Y0, Z0], 5)
            expression = tree_expression(tree)
            self.assertIs(is_expression(expression), True)
            self.assertEqual(size(expression), 6 * node_count(tree) + 1)
            self.assertEqual(depth(expression), 2 * tree_depth(tree) + 1)

    def test_the_greatest_tree(self):
        # 60 nodes with depth 16: a chain of 16 nodes with 44 more nodes at its sides.
        tree = "in"
        rest = 44
        for k in range(16):
            side = "out"
            if k >= 4 and rest > 0:
                side = full_tree([plane_at(0, j) for j in range(3 if rest >= 7 else 2 if rest >= 3 else 1)])
                rest -= node_count(side)
            tree = (plane_at(2, k % 9), tree, side)
        self.assertEqual((node_count(tree), tree_depth(tree), len(tree_planes(tree))), (60, 16, 12))
        self.assertEqual(len(cells(tree)), 61)
        self.assertEqual(size(tree_expression(tree)), 361)
        self.assert_same(parse_tree(tree_text(tree)), tree)
        self.assertIn(read_tree(tree, point(0, 0, 0)), ("in", "out", "on"))
        self.assertIs(is_reduced(tree), False)


class TestReading(SpaceTest):

    def test_reading_by_the_rule(self):
        for tree, place, wanted in (
                ("in", (0, 0, 0), "in"), ("out", (0, 0, 0), "out"), (LAYER, (5, 5, 1), "in"), (LAYER, (5, 5, 2), "on"),
                (LAYER, (5, 5, 0), "on"), (LAYER, (5, 5, 3), "out"), (LAYER, (5, 5, -1), "out"),
                (LAYER, (5, 5, (1, BIG)), "in"), (QUARTER, (0, 0, 9), "on"), (QUARTER, (1, 0, 0), "on"),
                (QUARTER, (0, 1, 0), "on"), (QUARTER, (0, -1, 0), "out"), (QUARTER, (1, 1, 0), "in"),
                (QUARTER, (-1, 0, 0), "out"), ((X0, "in", "in"), (0, 0, 0), "in"), ((X0, "out", "out"), (0, 0, 0), "out"),
                ((X0, (Y0, "in", "out"), (Y0, "in", "out")), (0, 1, 0), "in"),
                ((X0, (Y0, "in", "out"), (Y0, "in", "out")), (0, 0, 0), "on")):
            self.assertEqual(read_tree(tree, point(*place)), wanted, (tree, place))

    def test_trees_that_are_not_reduced_are_read_by_the_rule_too(self):
        doubled = (X0, (X0, "in", "out"), "in")
        self.assertEqual(read_tree(doubled, point(0, 0, 0)), "on")
        self.assertEqual(plain_reading(doubled, point(0, 0, 0)), "in")
        self.assertEqual(read_tree(BESIDE, point(0, 0, 0)), "out")
        self.assertEqual(read_tree(BESIDE, point(0, 0, 2)), "on")

    def test_a_reduced_tree_reads_as_its_expression(self):
        chooser = random.Random(3)
        planes = [X0, Y0, Z0, (1, 1, 0, -1), (1, -1, 1, 0)]
        places = [point(*place) for place in itertools.product((-1, 0, (1, 2), 1), repeat=3)]
        reduced = 0
        while reduced < 12:
            tree = some_tree(chooser, planes, 3)
            if is_reduced(tree) and node_count(tree) > 1:
                reduced += 1
                for place in places:
                    self.assertEqual(read_tree(tree, place), plain_reading(tree, place), (tree, place))


class TestReduced(SpaceTest):

    def test_known_trees(self):
        for tree, wanted in (
                ("in", True), ("out", True), ((X0, "in", "in"), True), (LAYER, True), (QUARTER, True), (BESIDE, False),
                ((X0, (X0, "in", "out"), "in"), False), ((X0, "in", (X0, "in", "out")), False),
                ((X0, "in", (Y0, "in", (X0, "in", "out"))), False), (full_tree([X0, Y0, Z0]), True),
                # The last plane meets the quarter x > 0, y > 0 only in the line x = y = 0.
                ((X0, (Y0, ((1, 1, 0, 0), "in", "out"), "out"), "out"), False),
                ((X0, (Y0, ((1, 1, 0, -1), "in", "out"), "out"), "out"), True),
                ((X0, (Y0, ((1, -1, 0, 0), "in", "out"), "out"), "out"), True)):
            self.assertIs(is_reduced(tree), wanted, tree)

    def test_by_the_path_conditions(self):
        chooser = random.Random(4)
        told = {True: 0, False: 0}
        for _ in range(60):
            tree = some_tree(chooser, [X0, Y0, (1, 1, 0, -1), (0, 0, 1, -1), plane_at(0, 1)], 3)
            wanted = all(
                has_point(conditions + [(plane, 0)]) for plane, conditions in nodes_of(tree, []))
            self.assertIs(is_reduced(tree), wanted)
            told[wanted] += 1
        self.assertGreater(min(told.values()), 10)

    def test_cell_points(self):
        chooser = random.Random(5)
        found = 0
        while found < 20:
            tree = some_tree(chooser, [X0, Y0, Z0, (1, 1, 1, -1), (2, -1, 0, 3)], 4)
            if is_reduced(tree):
                found += 1
                points = cell_points(tree)
                self.assertEqual(len(points), len(cells(tree)))
                for (conditions, mark), place in zip(cells(tree), points):
                    self.assertIs(is_vector(place), True)
                    self.assertIs(holds(conditions, place), True)
                    self.assertEqual(read_tree(tree, place), mark)
        self.assertEqual(len(cell_points("in")), 1)

    def test_a_plane_that_does_not_cut_is_refuted(self):
        conditions = [((0, 0, 1, -2), 1), (Z0, 0)]
        self.assertIs(is_refutation(conditions, common_point(conditions)[1]), True)


def nodes_of(tree, conditions):
    """The nodes with their path conditions (point 25)."""
    if isinstance(tree, str):
        return []
    plane, front, back = tree
    return [(plane, conditions)] + nodes_of(front, conditions + [(plane, 1)]) + nodes_of(
        back, conditions + [(plane, -1)])


class TestTexts(SpaceTest):

    def test_texts_and_back(self):
        for tree, text in (
                ("in", "in"), ("out", "out"), ((X0, "in", "out"), "cut 1 0 0 0\n  in\n  out"),
                (LAYER, "cut 0 0 1 -2\n  out\n  cut 0 0 1 0\n    in\n    out"),
                (QUARTER, "cut 1 0 0 0\n  cut 0 1 0 0\n    in\n    out\n  out"),
                (((BIG, -BIG, 0, -1), "out", "out"), f"cut {BIG} -{BIG} 0 -1\n  out\n  out")):
            self.assert_same(tree_text(tree), text)
            self.assert_same(parse_tree(text), tree)

    def test_some_trees_and_back(self):
        chooser = random.Random(6)
        for _ in range(40):
            tree = some_tree(chooser, [X0, Y0, Z0, (2, -3, 4, -5)], 5)
            if node_count(tree) <= 60:
                self.assert_same(parse_tree(tree_text(tree)), tree)

    def test_trees_that_are_not_reduced_have_texts(self):
        for tree in (BESIDE, (X0, (X0, "in", "out"), "in"), side_chain(16, 3)):
            self.assert_same(parse_tree(tree_text(tree)), tree)

    def test_long_words(self):
        long = "1" + "0" * 799
        self.assert_same(parse_tree(f"cut 1 0 0 -{long}\n  in\n  out"), ((1, 0, 0, -int(long)), "in", "out"))
        self.assert_same(tree_text(((1, 0, 0, -int(long)), "in", "out")), f"cut 1 0 0 -{long}\n  in\n  out")
        for place in (2, 3, 4, 5):
            words = ["cut", "1", "0", "0", "0"]
            words[place - 1] = long + "0"
            self.assert_fault(" ".join(words), 1, place)
            words[place - 1] = "-" + long + "0"
            self.assert_fault(" ".join(words), 1, place)

    def assert_fault(self, text, line, place):
        self.assert_error("TextFault", parse_tree, text, line=line, place=place)

    def test_faults_of_the_first_word(self):
        for text in (
                "", "x", "In", "on", "full", "half 0 0 1 0 +", "empty", "join", "cuts 1 0 0 0", "in\t", "0", "inn",
                "Cut 1 0 0 0", "-", "~"):
            self.assert_fault(text, 1, 1)
            if text != "":
                self.assert_fault("cut 1 0 0 0\n  in\n  " + text, 3, 1)

    def test_faults_of_the_indentation(self):
        for text, line in (
                (" in", 1), ("  in", 1), (" ", 1), ("    ", 1), ("  cut 1 0 0 0", 1), ("cut 1 0 0 0\nin", 2),
                ("cut 1 0 0 0\n in", 2), ("cut 1 0 0 0\n   in", 2), ("cut 1 0 0 0\n    in", 2), ("cut 1 0 0 0\n", 2),
                ("cut 1 0 0 0\n ", 2), ("cut 1 0 0 0\n   ", 2), ("cut 1 0 0 0\n  in\n", 3), ("cut 1 0 0 0\n  in\nout", 3),
                ("cut 1 0 0 0\n  in\n    out", 3), ("cut 1 0 0 0\n  cut 0 1 0 0\n  in", 3), (" x", 1), (" cut 0 0 0 1", 1),
                ("cut 1 0 0 0\n  cut 0 1 0 0\n    in\n    out\n    in", 5)):
            self.assert_fault(text, line, 0)

    def test_a_line_of_spaces_alone(self):
        self.assert_fault("cut 1 0 0 0\n  ", 2, 1)
        self.assert_fault("cut 1 0 0 0\n  in\n  ", 3, 1)
        self.assert_fault("cut 1 0 0 0\n  in\n   ", 3, 0)
        self.assert_fault("cut 1 0 0 0\n  cut 0 1 0 0\n    ", 3, 1)

    def test_faults_of_the_words_of_a_plane(self):
        for words, place in (
                ("cut x 0 0 0", 2), ("cut 1 x 0 0", 3), ("cut 1 0 x 0", 4), ("cut 1 0 0 x", 5), ("cut +1 0 0 0", 2),
                ("cut 1 -0 0 0", 3), ("cut 1 0 00 0", 4), ("cut 1 0 0 1/2", 5), ("cut  1 0 0 0", 2), ("cut 1  0 0 0", 3),
                ("cut 1 0 0  0", 5), ("cut 1 0 0 01", 5), ("cut 1 0 0 0.5", 5), ("cut 1 x", 3), ("cut x", 2), ("cut ", 2),
                ("cut 1 0 0 ", 5), ("cut 0 0 x 4", 4), ("cut 0 0 2 x", 5), ("cut --1 0 0 0", 2), ("cut - 0 0 0", 2)):
            self.assert_fault(words, 1, place)
            self.assert_fault("cut 1 0 0 0\n  in\n  " + words, 3, place)

    def test_four_integers_that_are_no_plane(self):
        for words in (
                "0 0 2 4", "0 0 0 0", "0 0 0 1", "-1 0 0 0", "0 -1 0 0", "0 0 -1 5", "2 0 0 0", "3 6 9 12",
                "0 0 2 4 x", "0 0 2 4 5", "0 0 2 4 ", "0 0 0 1 0 0"):
            self.assert_fault("cut " + words, 1, 2)
            self.assert_fault("cut 1 0 0 0\n  cut " + words, 2, 2)

    def test_missing_words(self):
        for words, place in (("cut", 2), ("cut 1", 3), ("cut 1 0", 4), ("cut 1 0 0", 5), ("cut 0 0 2", 5)):
            self.assert_fault(words, 1, place)

    def test_further_words(self):
        for words, place in (
                ("in in", 2), ("out x", 2), ("in ", 2), ("out  ", 2), ("in out", 2), ("cut 1 0 0 0 0", 6),
                ("cut 1 0 0 0 ", 6), ("cut 1 0 0 0 x", 6), ("cut 1 0 0 0 in out", 6), ("in  in", 2)):
            self.assert_fault(words, 1, place)
            self.assert_fault("cut 1 0 0 0\n  " + words, 2, place)

    def test_texts_that_end_too_early(self):
        for text, line in (
                ("cut 1 0 0 0", 2), ("cut 1 0 0 0\n  in", 3), ("cut 1 0 0 0\n  cut 0 1 0 0\n    in\n    out", 5),
                ("cut 1 0 0 0\n  cut 0 1 0 0", 3)):
            self.assert_fault(text, line, 0)

    def test_lines_after_the_last_node(self):
        for rest in ("", "in", "  in", "x", "  ", "cut 0 0 2 4", "in\nx", "\n"):
            self.assert_fault("in\n" + rest, 2, 0)
            self.assert_fault("cut 1 0 0 0\n  in\n  out\n" + rest, 4, 0)

    def test_the_first_line_with_a_fault_is_told(self):
        self.assert_fault("cut 1 0 0 0\n  x\nin", 2, 1)
        self.assert_fault("cut 1 0 0 0 1\n x", 1, 6)
        self.assert_fault("cut 1 0 0 0\n  in in\n  y\nz", 2, 2)

    def test_the_greatest_text(self):
        text = tree_text(side_chain(74))
        self.assertEqual(len(text.split("\n")), 149)
        self.assert_error("TooLarge", parse_tree, text, what="depth")
        self.assert_fault(text + "\nin", 150, 0)
        self.assert_fault(text[:-3] + "x", 149, 1)


class TestLimits(SpaceTest):

    def test_at_the_limits(self):
        for tree in (side_chain(16), wide_tree(60, 12), wide_tree(60, 1)):
            self.assert_same(parse_tree(tree_text(tree)), tree)

    def test_beyond_one_limit(self):
        for tree, measures, what in (
                (side_chain(17), (17, 17, 12), "depth"), (wide_tree(20, 13), (20, None, 13), "planes"),
                (wide_tree(61, 12), (61, None, 12), "nodes"), (side_chain(40, 5), (40, 40, 5), "depth")):
            self.assertEqual(node_count(tree), measures[0])
            self.assertEqual(len(tree_planes(tree)), measures[2])
            self.assertEqual(tree_depth(tree) > 16, what == "depth")
            self.assert_error("TooLarge", parse_tree, tree_text(tree), what=what)

    def test_beyond_several_limits(self):
        self.assert_error("TooLarge", parse_tree, tree_text(side_chain(17, 13)), what="depth")
        self.assert_error("TooLarge", parse_tree, tree_text(side_chain(61, 12)), what="depth")
        self.assert_error("TooLarge", parse_tree, tree_text(side_chain(70, 70)), what="depth")
        self.assert_error("TooLarge", parse_tree, tree_text(wide_tree(61, 13)), what="planes")

    def test_a_fault_comes_before_every_limit(self):
        self.assert_error("TextFault", parse_tree, tree_text(side_chain(17, 13)) + "x", line=35, place=1)
        self.assert_error("TextFault", parse_tree, tree_text(wide_tree(61, 13)) + "\n", line=124, place=0)

    def test_trees_somewhat_beyond_the_limits_are_measured(self):
        tree = side_chain(20, 14)
        self.assert_same((node_count(tree), tree_depth(tree), len(tree_planes(tree))), (20, 20, 14))
        self.assertEqual(len(cells(tree)), 21)
        self.assertIs(is_tree(tree), True)


def wide_tree(nodes, planes):
    """A tree with this many nodes and planes, and of little depth; its planes stand in turn."""
    places = itertools.cycle([plane_at(2, k) for k in range(planes)])

    def grown(count):
        if count == 0:
            return "out"
        plane = next(places)
        return (plane, grown((count - 1) // 2), grown(count - 1 - (count - 1) // 2))
    return grown(nodes)


if __name__ == "__main__":
    unittest.main()
