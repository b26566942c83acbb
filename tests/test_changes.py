"""Points 57 and 58."""

import inspect
import itertools
import random
import unittest

from everypoint import changes
from everypoint.changes import Model, fewest_nodes, fewest_planes, is_order, tree_by_order
from everypoint.expressions import part_at, parts_of, planes_of, replace_at, size
from everypoint.keeping import keep, kept_tree
from everypoint.moves import STILL, make_move, mirror_axis, quarter_turn, scale_by, shift_by
from everypoint.reading import read_expression, truth_rows
from everypoint.trees import MOST_NODES, is_reduced, node_count, read_tree, tree_planes
from everypoint.walls import walls, walls_unlike
from samples import (
    BOUNDED, CHECKERED, CUBE, EMPTY, FULL, GEM, HOUSE, NOT_BOUNDED, RING, SHELL, SPIKE, TWO_IN_A_CORNER, TWO_IN_AN_EDGE, points_of,
    some_expression, some_planes, stripes, xor)
from support import X0, Y0, Z0, SpaceTest, kinds_of, nested, plane_at, point

A, B, C = ("half", X0, 1), ("half", Y0, 1), ("half", Z0, 1)
MOVES = [STILL, shift_by(point((1, 2), 0, -3)), scale_by(point(2, -3, 1)), mirror_axis(1), quarter_turn(0), quarter_turn(2, 3),
         make_move([[0, 0, 1], [0, 1, 0], [1, 0, 0]], [0, 1, 0])]
CHOSEN = ("join", ("meet", A, B), ("take", C, A))
# Every second layer across z is chequered. With the planes across x first the tree has too many nodes.
CHEQUERED = ("meet", xor(stripes(0), stripes(1)), stripes(2))


def levels_joined(count, axis=2):
    parts = [("half", plane_at(axis, k), 1) for k in range(count)]
    while len(parts) > 1:
        parts = [("join", *parts[k:k + 2]) if k + 1 < len(parts) else parts[k] for k in range(0, len(parts), 2)]
    return parts[0]


def full_leaves(count):
    if count == 1:
        return FULL
    return ("meet", full_leaves(count // 2), full_leaves(count - count // 2))


def paths_of(expression):
    found = [[]]
    for step, part in enumerate(parts_of(expression)):
        found += [[step] + path for path in paths_of(part)]
    return found


def moved_expression(chooser, planes, leaves):
    """An expression with moves at some of its nodes, few planes and a small size."""
    expression = some_expression(chooser, planes, leaves)
    for path in paths_of(expression):
        if chooser.random() < 0.15:
            expression = replace_at(expression, path, ("move", chooser.choice(MOVES), part_at(expression, path)))
            break
    return expression


def state_of(model):
    return kinds_of((model.expression, model.tree, model.rebuilt, model.changes))


def tree_by_definition(expression, order):
    """Point 58: as point 30, with the first plane of the order that shows, over all truth rows of the expression."""
    planes = planes_of(expression)

    def below(rows):
        for plane in order:
            at = planes.index(plane)
            if any(rows.get(signs[:at] + (-signs[at],) + signs[at + 1:], told) != told for signs, told in rows.items()):
                parts = [{signs: told for signs, told in rows.items() if signs[at] == side} for side in (1, -1)]
                return (plane, below(parts[0]), below(parts[1]))
        return "in" if list(rows.values())[0] else "out"
    return below(dict(truth_rows(expression)))


class TestMaking(SpaceTest):

    def test_known_models(self):
        for expression in [EMPTY, FULL, A, ("move", quarter_turn(1), HOUSE), ("outside", RING)] + list(BOUNDED.values()):
            model = Model(expression)
            self.assert_same(model.expression, expression)
            self.assert_same(model.tree, kept_tree(expression))
            self.assert_same(model.rebuilt, size(expression))
            self.assert_same(model.changes, 0)
            self.assert_same(Model(expression=expression).tree, model.tree)

    def test_too_large(self):
        for expression, what in (
                (full_leaves(33), "size"), (nested(16, C, lambda x: ("outside", x)), "depth"), (levels_joined(13), "planes"),
                (nested(70, C, lambda x: ("outside", x)), "size"), (nested(16, levels_joined(13), lambda x: ("outside", x)), "depth"),
                (("meet", EMPTY, levels_joined(13)), "planes"), (CHECKERED, "nodes"),
                # The kept tree of the whole is a leaf.
                (("meet", EMPTY, CHECKERED), "nodes"), (("join", CHECKERED, FULL), "nodes"), (("outside", ("outside", CHECKERED)), "nodes")):
            self.assert_error("TooLarge", Model, expression, what=what)
        self.assertEqual(kept_tree(("meet", EMPTY, CHECKERED)), "out")

    def test_a_node_that_is_too_large_in_its_own_space(self):
        """The kept tree of a part may have too many nodes where that of the moved part does not."""
        exchange = make_move([[0, 0, 1], [0, 1, 0], [1, 0, 0]], [0, 0, 0])
        part = ("move", exchange, CHEQUERED)
        self.assertLessEqual(node_count(kept_tree(CHEQUERED)), MOST_NODES)
        self.assert_error("TooLarge", kept_tree, part, what="nodes")
        whole = ("move", exchange, part)
        self.assert_same(kept_tree(whole), kept_tree(CHEQUERED))
        self.assert_error("TooLarge", Model, whole, what="nodes")
        self.assert_same(Model(("move", STILL, CHEQUERED)).tree, kept_tree(CHEQUERED))

    def test_at_the_limits(self):
        deep = nested(15, C, lambda x: ("outside", x))
        for expression in (deep, ("outside", ("meet", C, full_leaves(31))), levels_joined(12)):
            model = Model(expression)
            self.assert_same(model.tree, kept_tree(expression))
            self.assert_same(model.rebuilt, size(expression))
        self.assertEqual(Model(("outside", ("meet", C, full_leaves(31)))).rebuilt, 64)

    def test_the_class(self):
        for name in ("__init__", "expression", "tree", "rebuilt", "changes", "change", "back", "part_tree"):
            self.assertIn(name, vars(Model))
        for name in ("expression", "tree", "rebuilt", "changes"):
            self.assertIsInstance(vars(Model)[name], property)
            with self.assertRaises(AttributeError):
                setattr(Model(A), name, 1)
        for name, told in (
                ("__init__", "(self, expression)"), ("change", "(self, path, part)"), ("back", "(self)"), ("part_tree", "(self, path)")):
            self.assertEqual(str(inspect.signature(vars(Model)[name])), told)
        self.assertEqual((Model.__module__, Model.__bases__), (changes.__name__, (object,)))


class TestParts(SpaceTest):

    def assert_parts(self, model):
        expression = model.expression
        for path in paths_of(expression):
            self.assert_same(model.part_tree(path), kept_tree(part_at(expression, path)))

    def test_own_spaces(self):
        moved = ("move", shift_by(point(5, 0, 0)), ("take", CUBE, ("move", quarter_turn(2), A)))
        model = Model(moved)
        self.assert_same(model.part_tree([]), model.tree)
        # The moves around a node are not applied; the move of a move node belongs to its own tree.
        self.assert_same(model.part_tree([0, 1, 0]), (X0, "in", "out"))
        self.assert_same(model.part_tree([0, 1]), (Y0, "in", "out"))
        self.assert_same(model.part_tree([0, 0]), kept_tree(CUBE))
        self.assert_same(model.part_tree(path=[0]), kept_tree(("take", CUBE, B)))
        self.assert_parts(model)

    def test_some_expressions(self):
        chooser = random.Random(57)
        for expression in [RING, SHELL, HOUSE] + [moved_expression(chooser, some_planes(chooser, 4, 2), 7) for _ in range(15)]:
            self.assert_parts(Model(expression))

    def test_wrong_paths(self):
        model = Model(("take", ("move", STILL, A), ("outside", B)))
        before = state_of(model)
        for path in ([2], [-1], [0, 1], [1, 1], [0, 0, 0], [1, 0, 0], [0, 2], [0, -1], [-1, 0], [5]):
            self.assert_error("BadPath", model.part_tree, path)
            self.assert_error("BadPath", model.change, path, A)
            # Also where the part is too large.
            for part in (full_leaves(60), levels_joined(20), CHECKERED, nested(30, A, lambda x: ("outside", x))):
                self.assert_error("BadPath", model.change, path, part)
        self.assertEqual(state_of(model), before)
        self.assert_error("NothingToUndo", model.back)


class TestChanges(SpaceTest):

    def test_known_changes(self):
        model = Model(("take", ("outside", A), B))
        tree = model.change([0, 0], ("meet", C, B))
        self.assert_same(model.expression, ("take", ("outside", ("meet", C, B)), B))
        self.assert_same(tree, kept_tree(model.expression))
        self.assert_same((model.tree, model.rebuilt, model.changes), (tree, 5, 1))
        tree = model.change(path=[1], part=EMPTY)
        self.assert_same(model.expression, ("take", ("outside", ("meet", C, B)), EMPTY))
        self.assert_same((model.tree, model.rebuilt, model.changes), (tree, 2, 2))
        tree = model.change([], HOUSE)
        self.assert_same((model.expression, model.tree, model.rebuilt, model.changes), (HOUSE, tree, size(HOUSE), 3))
        self.assert_same(tree, kept_tree(HOUSE))

    def test_a_change_into_an_equal_expression(self):
        model = Model(RING)
        tree = model.tree
        self.assert_same(model.change([1], RING[2]), tree)
        self.assert_same((model.expression, model.changes, model.rebuilt), (RING, 1, size(RING[2]) + 1))
        self.assert_same(model.change([], RING), tree)
        self.assert_same((model.changes, model.rebuilt), (2, size(RING)))
        self.assert_same(model.back(), tree)
        self.assert_same((model.changes, model.rebuilt), (1, 0))

    def test_steps_back(self):
        model = Model(("join", A, B))
        states = []
        for path, part in (([0], C), ([1], ("outside", A)), ([1, 0], CUBE), ([], GEM), ([0], EMPTY)):
            states.append((model.expression, model.tree))
            model.change(path, part)
        self.assert_same(model.changes, 5)
        for k, (expression, tree) in reversed(list(enumerate(states))):
            self.assert_same(model.back(), tree)
            self.assert_same((model.expression, model.tree, model.rebuilt, model.changes), (expression, tree, 0, k))
            for path in paths_of(expression):
                self.assert_same(model.part_tree(path), kept_tree(part_at(expression, path)))
        before = state_of(model)
        for _ in range(2):
            self.assert_error("NothingToUndo", model.back)
            self.assertEqual(state_of(model), before)

    def test_back_is_no_change_that_can_be_taken_back(self):
        model = Model(A)
        model.change([], B)
        model.back()
        self.assert_error("NothingToUndo", model.back)
        model.change([], C)
        self.assert_same((model.expression, model.changes, model.rebuilt), (C, 1, 1))
        model.back()
        self.assert_same((model.expression, model.changes, model.rebuilt), (A, 0, 0))

    def test_nothing_changes_with_an_error(self):
        model = Model(("join", CUBE, ("move", shift_by(point(9, 0, 0)), SPIKE)))
        model.change([0], HOUSE)
        for prepare in (lambda: None, model.back):
            prepare()
            before = state_of(model)
            trees = [kinds_of(model.part_tree(path)) for path in paths_of(model.expression)]
            for path, part, what in (
                    ([1], full_leaves(32), "size"), ([0], nested(15, C, lambda x: ("outside", x)), "depth"), ([0], levels_joined(12), "planes"),
                    ([], CHECKERED, "nodes"), ([], full_leaves(400), "size"), ([1, 0], levels_joined(13), "planes"),
                    ([], ("meet", EMPTY, CHECKERED), "nodes"), ([0], nested(30, A, lambda x: ("outside", x)), "depth"),
                    ([1], nested(20, levels_joined(20), lambda x: ("outside", x)), "size")):
                self.assert_error("TooLarge", model.change, path, part, what=what)
                self.assertEqual(state_of(model), before)
            self.assertEqual([kinds_of(model.part_tree(path)) for path in paths_of(model.expression)], trees)

    def test_errors_as_of_the_constructor(self):
        start = ("join", ("meet", A, B), C)
        chooser = random.Random(58)
        parts = [CHECKERED, full_leaves(31), full_leaves(30), nested(14, A, lambda x: ("outside", x)), nested(13, A, lambda x: ("outside", x)),
                 levels_joined(11), levels_joined(10), CHEQUERED, RING]
        refused = 0
        for path, part in itertools.product(paths_of(start), parts):
            model, whole = Model(start), replace_at(start, path, part)
            try:
                fresh = Model(whole)
            except ValueError as error:
                refused += 1
                self.assert_error("TooLarge", model.change, path, part, what=error.what)
                continue
            model.change(path, part)
            self.assert_same((model.expression, model.tree), (whole, fresh.tree))
            again = chooser.choice(paths_of(whole))
            self.assert_same(model.part_tree(again), fresh.part_tree(again))
        self.assertGreater(refused, 5)

    def test_the_kept_tree_is_that_of_the_expression(self):
        chooser = random.Random(59)
        for _ in range(10):
            planes = some_planes(chooser, 5, 2)
            model = Model(moved_expression(chooser, planes, 6))
            past = []
            for _ in range(8):
                if past and chooser.random() < 0.3:
                    tree, rebuilt, wanted = model.back(), 0, past.pop()
                else:
                    path = chooser.choice(paths_of(model.expression))
                    part = moved_expression(chooser, planes, chooser.randint(1, 4))
                    try:
                        wanted = replace_at(model.expression, path, part)
                        Model(wanted)
                    except ValueError:
                        continue
                    past.append(model.expression)
                    tree, rebuilt = model.change(path, part), size(part) + len(path)
                self.assert_same(model.expression, wanted)
                self.assert_same(tree, kept_tree(wanted))
                self.assert_same((model.tree, model.rebuilt, model.changes), (tree, rebuilt, len(past)))
                path = chooser.choice(paths_of(wanted))
                self.assert_same(model.part_tree(path), kept_tree(part_at(wanted, path)))

    def test_the_path_that_was_passed(self):
        model, path = Model(("join", A, B)), [0]
        model.change(path, C)
        self.assert_same(path, [0])
        path.append(7)
        self.assert_same(model.expression, ("join", C, B))
        model.back()
        self.assert_same(model.expression, ("join", A, B))

    def test_two_models(self):
        one, other = Model(RING), Model(RING)
        one.change([], A)
        self.assert_same((other.expression, other.changes, other.rebuilt), (RING, 0, size(RING)))


class TestOrders(SpaceTest):

    def test_is_order(self):
        tree_planes_of_ring = tree_planes(kept_tree(RING))
        self.assertIs(is_order(RING, tree_planes_of_ring), True)
        self.assertIs(is_order(RING, tree_planes_of_ring[::-1]), True)
        # The planes of the hole's floor and roof are planes of the expression alone.
        self.assertEqual(len(planes_of(RING)), len(tree_planes_of_ring) + 2)
        layer = NOT_BOUNDED["layer"]
        first, second = (0, 0, 1, -2), Z0
        for value, wanted in (
                ([first, second], True), ([second, first], True), ([first], False), ([], False), ([first, first], False), ([first, second, second], False),
                ([first, second, X0], False), ([first, X0], False), ((first, second), False), ([first, list(second)], False), ([first, (0, 0, True, 0)], False),
                ([first, (0, 0, 2, 0)], False), ([first, None], False), ([first, "half"], False), ([[], {}], False), ({first: 1, second: 2}, False)):
            self.assertIs(is_order(layer, value), wanted, value)
        self.assertIs(is_order(value=[second, first], expression=layer), True)
        self.assertIs(is_order(RING, planes_of(RING)), False)

    def test_plain_values(self):
        for expression in (EMPTY, FULL, ("take", CUBE, CUBE)):
            self.assert_takes_plain_values(is_order, expression, right=[[]])
        self.assert_takes_plain_values(is_order, CUBE)
        self.assert_takes_plain_values(is_order, ("half", (0, 0, 1, 0), 1))

    def test_known_trees(self):
        layer = NOT_BOUNDED["layer"]
        first, second = (0, 0, 1, -2), Z0
        self.assert_same(tree_by_order(layer, [first, second]), kept_tree(layer))
        self.assert_same(tree_by_order(layer, [second, first]), (second, (first, "out", "in"), "out"))
        self.assert_same(tree_by_order(order=[], expression=FULL), "in")
        self.assert_same(tree_by_order(("take", CUBE, CUBE), []), "out")

    def test_by_definition(self):
        chooser = random.Random(60)
        made = [RING, SHELL, HOUSE, TWO_IN_AN_EDGE, TWO_IN_A_CORNER, BOUNDED["cube in pieces"], ("move", MOVES[1], RING)]
        made += [some_expression(chooser, some_planes(chooser, 5), 7) for _ in range(15)]
        for expression in made:
            planes = tree_planes(kept_tree(expression))
            self.assert_same(tree_by_order(expression, planes), kept_tree(expression))
            for _ in range(3):
                order = chooser.sample(planes, len(planes))
                given = list(order)
                tree = tree_by_order(expression, order)
                self.assertEqual(order, given)
                self.assert_same(tree, tree_by_definition(expression, order))
                self.assertIs(is_reduced(tree), True)
                self.assert_same(keep(tree), kept_tree(expression))
                # Alike expressions have equal trees by one order.
                self.assert_same(tree_by_order(("outside", ("outside", expression)), order), tree)
                for place in points_of(expression, 3, 12):
                    self.assertEqual(read_tree(tree, place), read_expression(expression, place))
                self.assert_unlike_walls(tree)

    def assert_unlike_walls(self, tree):
        """Each node has an unlike wall: as many nodes as planes of unlike walls at their places."""
        if tree not in ("in", "out"):
            numbers = {(wall[2], wall[3]) for wall in walls_unlike(tree)}
            self.assert_below(tree, 0, numbers, walls(tree))

    def assert_below(self, tree, first, numbers, listed):
        if tree not in ("in", "out"):
            middle = first + node_count(tree[1]) + 1
            last = middle + node_count(tree[2]) + 1
            own = [wall for wall in listed if first <= wall[2] < middle <= wall[3] < last]
            self.assertTrue(any((wall[2], wall[3]) in numbers for wall in own))
            self.assert_below(tree[1], first, numbers, listed)
            self.assert_below(tree[2], middle, numbers, listed)

    def test_bad_orders(self):
        planes = tree_planes(kept_tree(RING))
        for order in (planes[1:], planes + planes[:1], planes[1:] + [X0[:3] + (9,)], planes_of(RING), [], tuple(planes), None, 5, "in",
                      planes[1:] + planes[1:2], planes[1:] + [None], {}, [planes], [list(plane) for plane in planes]):
            self.assert_error("BadOrder", tree_by_order, RING, order)
        self.assert_error("BadOrder", tree_by_order, FULL, [X0])
        self.assert_error("BadOrder", tree_by_order, FULL, ())

    def test_too_large(self):
        for call in (is_order, tree_by_order):
            for value in ([], None, planes_of(CHECKERED), [X0], "x"):
                self.assert_error("TooLarge", call, full_leaves(33), value, what="size")
                self.assert_error("TooLarge", call, nested(16, C, lambda x: ("outside", x)), value, what="depth")
                self.assert_error("TooLarge", call, levels_joined(13), value, what="planes")
                self.assert_error("TooLarge", call, CHECKERED, value, what="nodes")

    def test_an_order_with_too_many_nodes(self):
        planes = tree_planes(kept_tree(CHEQUERED))
        self.assertLessEqual(node_count(kept_tree(CHEQUERED)), MOST_NODES)
        order = sorted(planes, reverse=True)
        self.assertIs(is_order(CHEQUERED, order), True)
        self.assert_error("TooLarge", tree_by_order, CHEQUERED, order, what="nodes")
        self.assertGreater(node_count(tree_by_definition(CHEQUERED, order)), MOST_NODES)
        # It is no order any more with one plane left out.
        self.assert_error("BadOrder", tree_by_order, CHEQUERED, order[1:])


class TestFewest(SpaceTest):

    def test_fewest_planes(self):
        for expression, wanted in (
                (EMPTY, 0), (FULL, 0), (A, 1), (RING, 10), (CUBE, 6), (("join", A, ("half", X0, -1)), 0), (BOUNDED["in a face"], 6),
                (("move", quarter_turn(0), CUBE), 6), (levels_joined(12), 1), (("take", CUBE, ("half", plane_at(2, 7), 1)), 6)):
            self.assert_same(fewest_planes(expression), wanted)
        for expression, what in (
                (full_leaves(33), "size"), (nested(16, C, lambda x: ("outside", x)), "depth"), (levels_joined(13), "planes"), (CHECKERED, "nodes")):
            self.assert_error("TooLarge", fewest_planes, expression, what=what)

    def test_no_alike_expression_has_fewer_planes(self):
        self.assertLess(fewest_planes(RING), len(planes_of(RING)))
        self.assert_same(fewest_planes(("join", RING, ("take", RING, C))), fewest_planes(RING))

    def test_known_counts(self):
        for expression, wanted in (
                (EMPTY, (0, [])), (FULL, (0, [])), (("take", CUBE, CUBE), (0, [])), (A, (1, [X0])), (NOT_BOUNDED["layer"], (2, [(0, 0, 1, -2), Z0])),
                (("meet", A, B), (2, [Y0, X0])), (xor(A, B), (3, [Y0, X0]))):
            self.assert_same(fewest_nodes(expression), wanted)
        # One plane chooses between two others: it must stand first.
        self.assert_same(fewest_nodes(CHOSEN), (3, [X0, Z0, Y0]))
        self.assertGreater(node_count(kept_tree(CHOSEN)), 3)

    def test_all_orders(self):
        chooser = random.Random(61)
        better = 0
        for _ in range(25):
            expression = some_expression(chooser, some_planes(chooser, chooser.randint(2, 4), 2), 6)
            planes = tree_planes(kept_tree(expression))
            tried = [(node_count(tree_by_definition(expression, order)), list(order)) for order in itertools.permutations(planes)]
            self.assert_same(fewest_nodes(expression), min(tried))
            better += min(tried)[0] < node_count(kept_tree(expression))
        self.assertGreater(better, 0)

    def test_lists_are_new(self):
        found = fewest_nodes(CHOSEN)
        found[1].clear()
        self.assert_same(fewest_nodes(expression=CHOSEN), (3, [X0, Z0, Y0]))

    def test_too_large(self):
        for expression, what in (
                (full_leaves(33), "size"), (nested(16, C, lambda x: ("outside", x)), "depth"), (levels_joined(13), "planes"), (CHECKERED, "nodes"),
                (CUBE, "orders"), (RING, "orders"), (("outside", GEM), "orders"), (("meet", stripes(0), B), "orders")):
            self.assert_error("TooLarge", fewest_nodes, expression, what=what)
        # The planes of the kept tree count, not those of the expression.
        self.assert_same(fewest_nodes(levels_joined(12)), (1, [plane_at(2, 0)]))
        self.assertEqual(fewest_nodes(("join", stripes(0), ("meet", stripes(0), B)))[0], 4)


if __name__ == "__main__":
    unittest.main()
