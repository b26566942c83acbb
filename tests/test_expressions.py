"""Points 18, 21, 22 and, for truth, 19."""

import itertools
import random
import unittest

from everypoint import expressions
from everypoint.expressions import (
    check_expression, depth, halves_of, is_expression, part_at, planes_of, replace_at, size, truth, without_moves)
from everypoint.moves import STILL, make_move, mirror_axis, moved_half, quarter_turn, scale_by, shift_by
from support import BIG, X0, Y0, Z0, SpaceTest, nested, plane_at, point

EMPTY, FULL = ("empty",), ("full",)
A, B, C = ("half", X0, 1), ("half", Y0, -1), ("half", Z0, 1)
UP = shift_by(point(0, 0, 1))
TURN = quarter_turn(0, 2)


def chain(count):
    """An expression of depth count and size 2 * count - 1."""
    return nested(count - 1, EMPTY, lambda x: ("join", x, FULL))


def outsides(count):
    """An expression of depth and size count."""
    return nested(count - 1, A, lambda x: ("outside", x))


def level_halves(count):
    """A join of this many halves with unlike planes, of small depth."""
    parts = [("half", plane_at(2, k), 1) for k in range(count)]
    while len(parts) > 1:
        parts = [
            ("join", parts[k], parts[k + 1]) if k + 1 < len(parts) else parts[k] for k in range(0, len(parts), 2)]
    return parts[0]


def balanced(leaves):
    """A join of this many equal halves, of small depth; its size is 2 * leaves - 1."""
    if leaves == 1:
        return A
    return ("join", balanced(leaves // 2), balanced(leaves - leaves // 2))


class TestKinds(SpaceTest):

    def test_expressions(self):
        for value in (
                EMPTY, FULL, A, B, ("join", A, B), ("meet", A, B), ("take", A, ("outside", B)), ("outside", FULL),
                ("move", UP, A), ("move", STILL, ("move", TURN, ("join", A, EMPTY))), chain(40), balanced(400)):
            self.assertIs(is_expression(value), True, value)

    def test_others(self):
        for value in (
                (), ("empty", EMPTY), ("empty", 1), ("full", FULL), ["empty"], "empty", ("nothing",), ("half", X0),
                ("half", X0, 0), ("half", X0, True), ("half", X0, 1, 1), ("half", (0, 0, 2, 4), 1), ("half", list(X0), 1),
                ("half", (X0, 1)), ["half", X0, 1], ("join", A), ("join", A, B, C), ("join", A, None), ("join", [A, B]),
                ("join", None, A), ("meet", "full", A), ("take", [], A), ("moved", UP, A), (None, UP, A), ("half", UP, A),
                ("meet",), ("take", A, ["half", X0, 1]), ("outside",), ("outside", A, B), ("outside", "full"),
                ("move", A), ("move", A, UP), ("move", UP, A, B), ("move", UP, UP), ("move", list(UP), A), ("move", UP),
                ("move", (UP[0], (0, 0, 0)), A), ("move", ((UP[1],) * 3, UP[1]), A), ("Empty",), ("join", A, ("half",)),
                (None,), (1, 2), (["join"], A, B), ({}, A), ("on",), ("outside", ("outside", ("outside", ("x",)))),
                ("half", (True, 0, 0, 0), 1), ("join ", A, B), None, True, {"join": 1}, ("join", A, EMPTY, ())):
            self.assertIs(is_expression(value), False, value)

    def test_any_plain_value(self):
        deep_outside = nested(58, FULL, lambda value: ("outside", value))
        deep_join = nested(58, FULL, lambda value: ("join", value, EMPTY))
        wide = nested(17, FULL, lambda value: ("join", value, value))
        self.assert_takes_plain_values(
            is_expression, right=[EMPTY, ("half", Z0, 1), deep_outside, deep_join, wide])


class TestMeasures(SpaceTest):

    def test_size_and_depth(self):
        for expression, nodes, steps in (
                (EMPTY, 1, 1), (FULL, 1, 1), (A, 1, 1), (("outside", A), 2, 2), (("join", A, B), 3, 2),
                (("move", UP, A), 2, 2), (("move", UP, ("move", UP, ("join", A, A))), 5, 4),
                (("take", ("join", A, B), C), 5, 3), (("meet", A, ("outside", ("outside", B))), 5, 4),
                (chain(40), 79, 40), (outsides(40), 40, 40), (balanced(400), 799, 10)):
            self.assert_same(size(expression), nodes)
            self.assert_same(depth(expression), steps)

    def test_equal_parts_are_different_nodes(self):
        self.assertEqual(size(nested(8, A, lambda x: ("join", x, x))), 511)


class TestHalves(SpaceTest):

    def test_left_to_right_with_duplicates(self):
        expression = ("join", ("take", A, B), ("meet", A, ("outside", C)))
        self.assert_same(halves_of(expression), [(X0, 1), (Y0, -1), (X0, 1), (Z0, 1)])
        self.assert_same(planes_of(expression), [Z0, Y0, X0])
        self.assert_same(halves_of(("join", EMPTY, FULL)), [])
        self.assert_same(planes_of(FULL), [])

    def test_planes_ascend_as_tuples(self):
        listed = [(1, 0, 0, 5), (0, 0, 1, 2), (0, 0, 1, -2), (1, 0, 0, -5), (0, 1, -1, 0), (0, 0, 1, 2)]
        expression = EMPTY
        for plane in listed:
            expression = ("join", expression, ("half", plane, -1))
        self.assert_same(halves_of(expression), [(plane, -1) for plane in listed])
        self.assert_same(
            planes_of(expression), [(0, 0, 1, -2), (0, 0, 1, 2), (0, 1, -1, 0), (1, 0, 0, -5), (1, 0, 0, 5)])

    def test_the_innermost_move_comes_first(self):
        inner, outer = shift_by(point(0, 0, 1)), scale_by(point(2, 2, 2))
        self.assert_same(halves_of(("move", outer, ("move", inner, C))), [((0, 0, 1, -2), 1)])
        self.assert_same(halves_of(("move", inner, ("move", outer, C))), [((0, 0, 1, -1), 1)])
        self.assert_same(planes_of(("move", outer, ("move", inner, C))), [(0, 0, 1, -2)])

    def test_moves_that_turn_and_mirror(self):
        self.assert_same(halves_of(("move", TURN, C)), [(Z0, -1)])
        self.assert_same(halves_of(("move", mirror_axis(0), C)), [(Z0, 1)])
        self.assert_same(halves_of(("move", mirror_axis(2), ("join", C, A))), [(Z0, -1), (X0, 1)])

    def test_moved_planes_can_become_equal(self):
        expression = ("join", C, ("move", UP, ("half", (0, 0, 1, 1), -1)))
        self.assert_same(planes_of(expression), [Z0])

    def test_without_moves(self):
        expression = ("move", UP, ("take", ("move", TURN, ("join", C, EMPTY)), ("outside", ("move", UP, A))))
        expected = ("take", ("join", ("half", (0, 0, 1, -1), -1), EMPTY), ("outside", A))
        self.assert_same(without_moves(expression), expected)
        self.assert_same(without_moves(expected), expected)
        self.assert_same(without_moves(("move", UP, FULL)), FULL)
        self.assert_same(halves_of(expression), [((0, 0, 1, -1), -1), (X0, 1)])

    def test_the_greatest_expressions(self):
        shifts = nested(39, C, lambda x: ("move", UP, x))
        self.assert_same(halves_of(shifts), [((0, 0, 1, -39), 1)])
        self.assert_same(without_moves(shifts), ("half", (0, 0, 1, -39), 1))
        turned = nested(29, balanced(385), lambda x: ("move", quarter_turn(2), x))
        self.assertEqual((size(turned), depth(turned)), (798, 39))
        self.assert_same(halves_of(turned), [(Y0, 1)] * 385)
        self.assert_same(planes_of(turned), [Y0])

    def test_great_moves_around_one_another(self):
        great = make_move(((BIG, 1, 0), (-1, BIG - 1, 2), (0, 1, BIG)), (BIG, 1, -BIG))
        expression = nested(3, ("join", A, C), lambda x: ("move", great, x))
        expected = [(X0, 1), (Z0, 1)]
        for _ in range(3):
            expected = [moved_half(great, half) for half in expected]
        self.assert_same(halves_of(expression), expected)


class TestTruth(SpaceTest):

    def test_each_word(self):
        for left, right in itertools.product((1, -1), repeat=2):
            sides = {X0: left, Y0: right}
            x, y = left == 1, right == -1
            for expression, wanted in (
                    (A, x), (B, y), (("half", X0, -1), not x), (("join", A, B), x or y), (("meet", A, B), x and y),
                    (("take", A, B), x and not y), (("outside", A), not x), (EMPTY, False), (FULL, True),
                    (("join", EMPTY, A), x), (("meet", FULL, A), x), (("take", FULL, A), not x),
                    (("take", A, FULL), False), (("outside", ("join", A, B)), not (x or y))):
                self.assertIs(truth(expression, sides), wanted, (expression, sides))

    def test_other_keys_are_ignored(self):
        sides = {X0: 1, Z0: "what", None: [], "half": {}, 5: 7, (): -1, ((1, 2), (3,)): True}
        before = dict(sides)
        self.assertIs(truth(A, sides), True)
        self.assertIs(truth(("outside", A), sides), False)
        self.assertIs(truth(FULL, {}), True)
        self.assertEqual(sides, before)

    def test_the_greatest_expressions(self):
        self.assertIs(truth(chain(40), {}), True)
        self.assertIs(truth(outsides(40), {X0: 1}), False)
        self.assertIs(truth(balanced(400), {X0: -1}), False)


class TestLimits(SpaceTest):

    def test_the_numbers(self):
        self.assert_same(
            (expressions.MOST_SIZE, expressions.MOST_DEPTH, expressions.MOST_PLANES), (64, 16, 12))

    def test_at_the_limits(self):
        at_size = ("outside", balanced(32))
        self.assertEqual((size(at_size), depth(chain(16)), len(planes_of(level_halves(12)))), (64, 16, 12))
        for expression in (EMPTY, A, at_size, chain(16), outsides(16), level_halves(12)):
            self.assertIsNone(check_expression(expression))

    def test_beyond_one_limit(self):
        self.assertEqual(size(balanced(33)), 65)
        self.assert_error("TooLarge", check_expression, balanced(33), what="size")
        self.assert_error("TooLarge", check_expression, outsides(17), what="depth")
        self.assert_error("TooLarge", check_expression, level_halves(13), what="planes")

    def test_beyond_several_limits(self):
        deep_and_wide = nested(12, level_halves(13), lambda x: ("outside", x))
        self.assertEqual((size(deep_and_wide), depth(deep_and_wide)), (37, 17))
        self.assert_error("TooLarge", check_expression, deep_and_wide, what="depth")
        self.assert_error("TooLarge", check_expression, level_halves(33), what="size")
        self.assert_error("TooLarge", check_expression, chain(33), what="size")
        self.assert_error("TooLarge", check_expression, nested(40, level_halves(13), lambda x: ("outside", x)), what="size")
        self.assert_error("TooLarge", check_expression, nested(16, balanced(25), lambda x: ("outside", x)), what="size")

    def test_moves_count_as_nodes_and_moved_planes_as_planes(self):
        self.assert_error("TooLarge", check_expression, nested(16, A, lambda x: ("move", UP, x)), what="depth")
        stacked = EMPTY
        for k in range(13):
            stacked = ("join", stacked, ("move", shift_by(point(0, 0, k)), C))
        self.assertEqual((size(stacked), depth(stacked), len(planes_of(stacked))), (40, 15, 13))
        self.assert_error("TooLarge", check_expression, stacked, what="planes")

    def test_sizes_beyond_the_limits_are_measured_all_the_same(self):
        wide = balanced(400)
        self.assert_same(halves_of(wide), [(X0, 1)] * 400)
        self.assertEqual(part_at(wide, [0] * 8), A)
        self.assert_error("TooLarge", check_expression, wide, what="size")


class TestPaths(SpaceTest):

    EXPRESSION = ("join", ("move", UP, ("take", A, B)), ("outside", C))

    def test_part_at(self):
        for path, expected in (
                ([], self.EXPRESSION), ([0], ("move", UP, ("take", A, B))), ([0, 0], ("take", A, B)), ([0, 0, 0], A),
                ([0, 0, 1], B), ([1], ("outside", C)), ([1, 0], C)):
            self.assert_same(part_at(self.EXPRESSION, path), expected)

    def test_replace_at(self):
        new = ("meet", FULL, C)
        for path, expected in (
                ([], new), ([0], ("join", new, ("outside", C))),
                ([0, 0], ("join", ("move", UP, new), ("outside", C))),
                ([0, 0, 0], ("join", ("move", UP, ("take", new, B)), ("outside", C))),
                ([0, 0, 1], ("join", ("move", UP, ("take", A, new)), ("outside", C))),
                ([1], ("join", ("move", UP, ("take", A, B)), new)),
                ([1, 0], ("join", ("move", UP, ("take", A, B)), ("outside", new)))):
            before = list(path)
            self.assert_same(replace_at(self.EXPRESSION, path, new), expected)
            self.assertEqual(path, before)

    def test_no_limits_are_checked(self):
        self.assertEqual(size(replace_at(outsides(39), [0] * 38, ("outside", A))), 40)
        self.assertEqual(size(replace_at(("join", A, A), [1], balanced(399))), 799)

    def test_bad_paths(self):
        for path in (
                [-1], [2], [0, 1], [0, -1], [0, 2], [1, 1], [1, -1], [1, 0, 0], [0, 0, 2], [0, 0, -2], [0, 0, 0, 0], [BIG],
                [-BIG], [0, 0, 1, 1], [3, 0], [-2, 0], [1, 0, -1], [0] * 50, [-3]):
            self.assert_error("BadPath", part_at, self.EXPRESSION, path)
            self.assert_error("BadPath", replace_at, self.EXPRESSION, path, FULL)
        for leaf in (EMPTY, FULL, A):
            for step in (-2, -1, 0, 1, 2):
                self.assert_error("BadPath", part_at, leaf, [step])
                self.assert_error("BadPath", replace_at, leaf, [step], FULL)
            self.assert_same(part_at(leaf, []), leaf)

    def test_what_is_put_in_is_found_again(self):
        chooser = random.Random(3)
        for _ in range(50):
            expression, path = balanced(chooser.randint(2, 40)), []
            while part_at(expression, path)[0] == "join" and chooser.random() < 0.8:
                path.append(chooser.randint(0, 1))
            changed = replace_at(expression, path, B)
            self.assert_same(part_at(changed, path), B)
            self.assert_same(replace_at(changed, path, part_at(expression, path)), expression)


if __name__ == "__main__":
    unittest.main()
