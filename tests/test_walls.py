"""Point 28 and, for kept trees, point 29; the sizes of point 66."""

import itertools
import random
import unittest

from everypoint.keeping import kept_tree
from everypoint.systems import has_point
from everypoint.trees import cells, is_reduced, node_count, tree_depth, tree_planes
from everypoint.walls import is_kept, walls, walls_unlike
from samples import BOUNDED, NOT_BOUNDED, chequered_tree, layered_tree, levels, some_expression, some_kept_trees, some_planes
from support import X0, Y0, Z0, SpaceTest, lists_in, plane_at

LAYER = ((0, 0, 1, -2), "out", ((0, 0, 1, 0), "in", "out"))
QUARTER = (X0, (Y0, "in", "out"), "out")
SLANTED = (1, 1, 0, -1)


def leaves_below(tree, way):
    """The ways to the leaves, front part first."""
    if isinstance(tree, str):
        return [way]
    plane, front, back = tree
    return leaves_below(front, way + [(plane, 1)]) + leaves_below(back, way + [(plane, -1)])


def walls_by_pairs(tree, path=(), number=0):
    """Point 28, tried for each pair of leaves."""
    if isinstance(tree, str):
        return []
    plane, front, back = tree
    first, second = leaves_below(front, []), leaves_below(back, [])
    found = []
    for f, down in enumerate(first):
        for b, up in enumerate(second):
            bounds = []
            for condition in list(path) + down + up:
                if condition not in bounds:
                    bounds.append(condition)
            if has_point(bounds + [(plane, 0)]):
                found.append((plane, bounds, number + f, number + len(first) + b))
    found += walls_by_pairs(front, path + ((plane, 1),), number)
    return found + walls_by_pairs(back, path + ((plane, -1),), number + len(first))


def kept_by_definition(tree):
    """Point 29: the walls of a node are those that part its front cells from its back cells."""
    told = {mark: cell for mark, cell in enumerate(cells(tree))}

    def below(part, number):
        if isinstance(part, str):
            return True
        plane, front, back = part
        middle = number + node_count(front) + 1
        last = middle + node_count(back) + 1
        own = [wall for wall in walls_by_pairs(tree)
               if number <= wall[2] < middle <= wall[3] < last and told[wall[2]][1] != told[wall[3]][1]]
        planes = tree_planes(front) + tree_planes(back)
        return all(plane < other for other in planes) and bool(own) and below(front, number) and below(back, middle)
    return below(tree, 0)


def some_tree(chooser, planes, steps):
    if steps == 0 or chooser.random() < 0.2:
        return chooser.choice(("in", "out"))
    return (chooser.choice(planes), some_tree(chooser, planes, steps - 1), some_tree(chooser, planes, steps - 1))


class TestWalls(SpaceTest):

    def test_known_trees(self):
        self.assert_same(walls("in"), [])
        self.assert_same(walls("out"), [])
        self.assert_same(walls((X0, "in", "out")), [(X0, [], 0, 1)])
        self.assert_same(walls((X0, "in", "in")), [(X0, [], 0, 1)])
        self.assert_same(walls(LAYER), [
            ((0, 0, 1, -2), [(Z0, 1)], 0, 1), (Z0, [((0, 0, 1, -2), -1)], 1, 2)])
        self.assert_same(walls(QUARTER), [
            (X0, [(Y0, 1)], 0, 2), (X0, [(Y0, -1)], 1, 2), (Y0, [(X0, 1)], 0, 1)])

    def test_the_order(self):
        tree = (Z0, (Y0, (X0, "in", "out"), "in"), (Y0, "out", (SLANTED, "in", "out")))
        found = walls(tree)
        self.assertEqual([(plane, front, back) for plane, bounds, front, back in found], [
            (Z0, 0, 3), (Z0, 1, 3), (Z0, 2, 4), (Z0, 2, 5), (Y0, 0, 2), (Y0, 1, 2), (X0, 0, 1),
            (Y0, 3, 4), (Y0, 3, 5), (SLANTED, 4, 5)])
        self.assert_same(found[2], (Z0, [(Y0, -1), (SLANTED, 1)], 2, 4))

    def test_bounds_name_each_condition_once(self):
        tree = (X0, (Y0, "in", "out"), (Y0, "out", "in"))
        self.assert_same(walls(tree), [
            (X0, [(Y0, 1)], 0, 2), (X0, [(Y0, -1)], 1, 3), (Y0, [(X0, 1)], 0, 1), (Y0, [(X0, -1)], 2, 3)])

    def test_bounds_are_those_of_the_way_then_front_then_back(self):
        tree = (Z0, (plane_at(1, 5), "in", (plane_at(0, 1), (plane_at(1, 1), "in", "out"), (SLANTED, "in", "out"))), "in")
        found = [wall for wall in walls(tree) if wall[0] == plane_at(0, 1)]
        self.assert_same(found[0], (
            plane_at(0, 1),
            [(Z0, 1), (plane_at(1, 5), -1), (plane_at(1, 1), 1), (SLANTED, 1)], 1, 3))
        self.assertEqual([wall[2:] for wall in found], [(1, 3), (2, 3), (2, 4)])

    def test_trees_that_are_not_reduced(self):
        # The plane of the second node lies behind that of the first, so it has no walls of its own.
        beside = ((0, 0, 1, -2), (Z0, "in", "out"), "out")
        self.assertIs(is_reduced(beside), False)
        self.assert_same(walls(beside), [((0, 0, 1, -2), [(Z0, 1)], 0, 2)])
        doubled = (X0, (X0, "in", "out"), "in")
        self.assert_same(walls(doubled), [])
        below = (X0, (Y0, (X0, "in", "out"), "out"), "out")
        self.assert_same(walls(below), [(X0, [(Y0, -1)], 2, 3), (Y0, [(X0, 1)], 0, 2)])
        # A condition that stands twice on a way.
        twice = (Z0, (Y0, (Y0, "in", "out"), "out"), "out")
        self.assert_same(walls(twice), [(Z0, [(Y0, 1)], 0, 3), (Z0, [(Y0, -1)], 2, 3)])

    def test_by_all_pairs(self):
        chooser = random.Random(1)
        for _ in range(60):
            planes = some_planes(chooser, 4, 2)
            tree = some_tree(chooser, planes, 4)
            self.assert_same(walls(tree), walls_by_pairs(tree))

    def test_by_all_pairs_for_kept_trees(self):
        for expression in list(BOUNDED.values()) + list(NOT_BOUNDED.values()):
            tree = kept_tree(expression)
            self.assert_same(walls(tree), walls_by_pairs(tree))

    def test_unlike_walls(self):
        chooser = random.Random(2)
        for _ in range(30):
            tree = some_tree(chooser, some_planes(chooser, 3, 2), 4)
            marks = [mark for conditions, mark in cells(tree)]
            self.assert_same(walls_unlike(tree), [wall for wall in walls(tree) if marks[wall[2]] != marks[wall[3]]])
        self.assert_same(walls_unlike((X0, "in", "in")), [])
        self.assert_same(walls_unlike(QUARTER), [(X0, [(Y0, 1)], 0, 2), (Y0, [(X0, 1)], 0, 1)])

    def test_sizes(self):
        """Point 66: at most n(n + 1)/2 walls."""
        for tree in (layered_tree(2, 1, 0), layered_tree(0, 1, 2), chequered_tree(levels(1), levels(0)), LAYER, QUARTER):
            count = node_count(tree)
            self.assertLessEqual(len(walls(tree)), count * (count + 1) // 2)
            for plane, bounds, front, back in walls(tree):
                self.assertLess(front, back)
                self.assertLessEqual(len(bounds), 2 * tree_depth(tree) - 1)

    def test_lists_are_new(self):
        for told in (walls, walls_unlike):
            tree = kept_tree(BOUNDED["ring"])
            found = told(tree)
            expected = repr(found)
            lists = lists_in(found)
            self.assertEqual(len({id(member) for member in lists}), len(lists))
            for member in lists:
                member.append("changed")
            self.assertEqual(repr(told(tree)), expected)


class TestKept(SpaceTest):

    def test_known_trees(self):
        for tree, wanted in (
                ("in", True), ("out", True), ((X0, "in", "out"), True), ((X0, "out", "in"), True), (LAYER, True),
                # The planes do not ascend.
                ((Z0, ((0, 0, 1, -2), "out", "in"), "out"), False), (QUARTER, False), ((Y0, (X0, "in", "out"), "out"), True),
                ((X0, (X0, "in", "out"), "out"), False),
                # A node without an unlike wall.
                ((X0, "in", "in"), False), ((X0, "out", "out"), False),
                ((Y0, (X0, "in", "out"), (X0, "in", "out")), False), ((Y0, (X0, "in", "out"), (X0, "out", "in")), True),
                ((Y0, (X0, "in", "in"), "out"), False), ((Y0, (X0, "out", "out"), "in"), False)):
            self.assertIs(is_kept(tree), wanted, tree)

    def test_each_condition_broken_alone(self):
        # (a) alone: each node has an unlike wall, but a plane below is less than that of its node.
        tree = (Y0, (Z0, "in", "out"), "out")
        self.assertTrue(all(any(wall[0] == plane for wall in walls_unlike(tree)) for plane in (Y0, Z0)))
        self.assertIs(is_kept(tree), False)
        # (a) alone, two steps down, and by a plane of another part.
        self.assertIs(is_kept((Y0, (X0, (Z0, "in", "out"), "out"), "out")), False)
        self.assertIs(is_kept((Y0, "out", (X0, "in", (Z0, "in", "out")))), False)
        self.assertIs(is_kept((Z0, (Y0, (X0, "in", "out"), "out"), "out")), True)
        # (b) alone: the planes ascend, and only the walls of the plane of the root are all like.
        tree = (Z0, (Y0, "in", "out"), (Y0, "in", "out"))
        self.assertEqual(len(walls(tree)), 4)
        self.assertTrue(all(wall[0] == Y0 for wall in walls_unlike(tree)))
        self.assertIs(is_kept(tree), False)

    def test_a_plane_that_does_not_cut_its_cell(self):
        self.assertIs(is_kept(((0, 0, 1, -2), (Z0, "in", "out"), "out")), False)
        self.assertIs(is_kept(((0, 0, 1, -2), "out", (Z0, "in", "out"))), True)

    def test_the_own_walls_count_not_those_of_the_same_plane_elsewhere(self):
        # Y0 parts "in" from "out" in front of the first plane, but behind it parts "out" from "out".
        tree = (Z0, (Y0, "in", "out"), (Y0, "out", "out"))
        self.assertIs(is_kept(tree), False)
        self.assertIs(is_kept((Z0, (Y0, "in", "out"), "out")), True)

    def test_by_definition(self):
        chooser = random.Random(3)
        told = {True: 0, False: 0}
        for _ in range(150):
            planes = sorted(some_planes(chooser, 3, 1))
            tree = some_tree(chooser, planes, 3)
            wanted = kept_by_definition(tree)
            self.assertIs(is_kept(tree), wanted, tree)
            told[wanted] += 1
        for marks in itertools.product(("in", "out"), repeat=4):
            tree = (Z0, (Y0, marks[0], marks[1]), (Y0, marks[2], marks[3]))
            wanted = kept_by_definition(tree)
            self.assertIs(is_kept(tree), wanted, tree)
            told[wanted] += 1
        self.assertGreater(min(told.values()), 15)

    def test_a_kept_tree_is_reduced(self):
        chooser = random.Random(4)
        made = some_kept_trees(chooser, lambda: some_expression(chooser, some_planes(chooser, 5), 7), 20)
        for tree in [tree for expression, tree in made] + [layered_tree(2, 1, 0)]:
            self.assertIs(is_kept(tree), True)
            self.assertIs(is_reduced(tree), True)


if __name__ == "__main__":
    unittest.main()
