"""Point 34."""

import inspect
import unittest

from everypoint import solids
from everypoint.expressions import halves_of, planes_of, size
from everypoint.keeping import kept_tree
from everypoint.moves import mirror_axis, quarter_turn, shift_by
from everypoint.reading import read_expression
from everypoint.shapes import box
from everypoint.solids import Solid
from everypoint.wording import expression_text
from samples import CHECKERED, CUBE, EMPTY, FULL, RING, TWO_IN_A_FACE
from support import X0, Y0, Z0, SpaceTest, nested, plane_at, point

A, B, C = ("half", X0, 1), ("half", Y0, -1), ("half", Z0, 1)


def full_leaves(count):
    if count == 1:
        return FULL
    return ("meet", full_leaves(count // 2), full_leaves(count - count // 2))


def levels_joined(places, axis=2):
    parts = [("half", plane_at(axis, k), 1) for k in places]
    while len(parts) > 1:
        parts = [("join", *parts[k:k + 2]) if k + 1 < len(parts) else parts[k] for k in range(0, len(parts), 2)]
    return parts[0]


class TestMaking(SpaceTest):

    def test_the_expression(self):
        for expression in (EMPTY, FULL, A, CUBE, RING, ("move", quarter_turn(1), CUBE), CHECKERED):
            solid = Solid(expression)
            self.assert_same(solid.expression, expression)
            self.assert_same(solid.planes, planes_of(expression))
            self.assert_same(len(solid), size(expression))
            self.assert_same(list(solid), halves_of(expression))
            self.assert_same(str(solid), expression_text(expression))
            self.assert_same(Solid(expression=expression).expression, expression)

    def test_at_the_limits(self):
        for expression in (
                ("outside", ("meet", C, full_leaves(31))), nested(15, C, lambda x: ("outside", x)), levels_joined(range(12))):
            self.assert_same(Solid(expression).expression, expression)

    def test_one_beyond_the_limits(self):
        for expression, what in (
                (full_leaves(33), "size"), (("outside", ("outside", ("meet", C, full_leaves(31)))), "size"),
                (nested(16, C, lambda x: ("outside", x)), "depth"), (levels_joined(range(13)), "planes"),
                (("take", EMPTY, levels_joined(range(13))), "planes"),
                (nested(16, levels_joined(range(13)), lambda x: ("outside", x)), "depth"),
                (nested(70, C, lambda x: ("outside", x)), "size")):
            self.assert_error("TooLarge", Solid, expression, what=what)

    def test_each_method_stands_in_the_class(self):
        for name in ("__init__", "__add__", "__mul__", "__sub__", "__neg__", "__eq__", "__len__", "__iter__", "__str__",
                     "moved", "reading", "kept", "of_box", "parsed", "expression", "planes"):
            self.assertIn(name, vars(Solid))
        self.assertIsInstance(vars(Solid)["expression"], property)
        self.assertIsInstance(vars(Solid)["planes"], property)
        self.assertIsInstance(vars(Solid)["of_box"], staticmethod)
        self.assertIsInstance(vars(Solid)["parsed"], classmethod)
        for name, told in (
                ("moved", "(self, move)"), ("reading", "(self, point)"), ("kept", "(self)"), ("__init__", "(self, expression)")):
            self.assertEqual(str(inspect.signature(vars(Solid)[name])), told)
        self.assertEqual(str(inspect.signature(Solid.of_box)), "(low, high)")
        self.assertEqual(str(inspect.signature(Solid.parsed)), "(text)")
        self.assertEqual(Solid.__module__, solids.__name__)
        self.assertEqual(Solid.__bases__, (object,))

    def test_properties_are_only_read(self):
        solid = Solid(CUBE)
        with self.assertRaises(AttributeError):
            solid.expression = FULL
        with self.assertRaises(AttributeError):
            solid.planes = []


class TestOperators(SpaceTest):

    def test_they_build_expressions(self):
        a, b = Solid(A), Solid(("join", B, C))
        for found, expression in (
                (a + b, ("join", A, ("join", B, C))), (b + a, ("join", ("join", B, C), A)), (a * b, ("meet", A, ("join", B, C))),
                (a - b, ("take", A, ("join", B, C))), (b - a, ("take", ("join", B, C), A)), (-a, ("outside", A)),
                (-(-a), ("outside", ("outside", A))), (a + a, ("join", A, A)), (a + b * a, ("join", A, ("meet", ("join", B, C), A)))):
            self.assertIs(type(found), Solid)
            self.assert_same(found.expression, expression)
            self.assert_same(list(found), halves_of(expression))
            self.assert_same(found.planes, planes_of(expression))

    def test_they_change_nothing(self):
        a, b = Solid(A), Solid(CUBE)
        for deed in (lambda: a + b, lambda: a * b, lambda: a - b, lambda: -a, lambda: a == b, lambda: a.moved(quarter_turn(0))):
            self.assertIsNot(deed(), a)
            self.assert_same(a.expression, A)
            self.assert_same(b.expression, CUBE)
        changed = a
        changed += b
        self.assert_same(a.expression, A)
        self.assert_same(changed.expression, ("join", A, CUBE))

    def test_too_large_results(self):
        wide, deep = Solid(full_leaves(32)), Solid(nested(15, C, lambda x: ("outside", x)))
        many = Solid(levels_joined(range(8)))
        others = Solid(levels_joined(range(8, 13)))
        for deed, what in (
                (lambda: wide + Solid(A), "size"), (lambda: wide * wide, "size"), (lambda: wide - wide, "size"),
                (lambda: -deep, "depth"), (lambda: deep + deep, "depth"), (lambda: Solid(A) - deep, "depth"),
                (lambda: many + others, "planes"), (lambda: many * others, "planes"), (lambda: many - others, "planes"),
                (lambda: Solid(EMPTY) - (many + others), "planes"), (lambda: deep.moved(quarter_turn(0)), "depth"),
                (lambda: (-wide).moved(quarter_turn(0)), "size"), (lambda: (-wide) + deep, "size"),
                (lambda: deep * (many + Solid(levels_joined(range(4), 0))).moved(quarter_turn(0)), "depth")):
            self.assert_error("TooLarge", deed, what=what)
        self.assertEqual(len(-wide), 64)

    def test_equal(self):
        a = Solid(A)
        for other, wanted in (
                (Solid(A), True), (a, True), (Solid(B), False), (Solid(("half", X0, -1)), False),
                # Alike, but not equal.
                (Solid(("outside", ("half", X0, -1))), False), (Solid(("join", A, A)), False), (Solid(("outside", ("outside", A))), False),
                (A, False), (None, False), (1, False), ("half", False), ([], False), ({}, False), (True, False), (kept_tree(A), False)):
            self.assertIs(a == other, wanted)
            self.assertIs(other == a, wanted)
            self.assertIs(a != other, not wanted)
            self.assertIs(other != a, not wanted)
        self.assertIs(Solid(EMPTY) == Solid(EMPTY), True)

    def test_iteration_with_duplicates(self):
        up = ("move", shift_by(point(0, 0, 1)), ("join", C, A))
        solid = Solid(("take", ("join", C, B), ("meet", up, C)))
        wanted = [(Z0, 1), (Y0, -1), ((0, 0, 1, -1), 1), (X0, 1), (Z0, 1)]
        self.assert_same([half for half in solid], wanted)
        self.assert_same(list(solid), wanted)
        self.assertEqual([(one, other) for one in solid for other in solid], [(one, other) for one in wanted for other in wanted])
        self.assertEqual(list(Solid(FULL)), [])
        self.assert_same(solid.planes, [(0, 0, 1, -1), Z0, Y0, X0])
        self.assertIn((X0, 1), solid)

    def test_length(self):
        for expression, wanted in ((EMPTY, 1), (CUBE, 11), (("move", quarter_turn(0), CUBE), 12), (("outside", FULL), 2)):
            self.assert_same(len(Solid(expression)), wanted)


class TestMethods(SpaceTest):

    def test_text(self):
        self.assert_same(str(Solid(("outside", ("half", (0, 0, 1, -6), -1)))), "outside\n  half 0 0 1 -6 -")
        self.assert_same(f"{Solid(EMPTY)}", "empty")

    def test_moved(self):
        move = mirror_axis(2)
        self.assert_same(Solid(C).moved(move).expression, ("move", move, C))
        self.assert_same(list(Solid(C).moved(move=move)), [(Z0, -1)])

    def test_reading(self):
        solid = Solid(TWO_IN_A_FACE)
        for place in (point(1, (1, 2), (1, 2)), point(1, 0, 0), point(3, 0, 0), point(2, 1, 1)):
            self.assertEqual(solid.reading(place), read_expression(TWO_IN_A_FACE, place))
            self.assertEqual(solid.reading(point=place), read_expression(TWO_IN_A_FACE, place))
        self.assertEqual(solid.reading(point(1, (1, 2), (1, 2))), "in")

    def test_kept(self):
        for expression in (EMPTY, C, RING):
            self.assert_same(Solid(expression).kept(), kept_tree(expression))
        self.assert_error("TooLarge", Solid(CHECKERED).kept, what="nodes")

    def test_of_box(self):
        low, high = point(0, (1, 2), -1), point(1, 1, 1)
        self.assert_same(Solid.of_box(low, high).expression, box(low, high))
        self.assert_same(Solid.of_box(high=high, low=low), Solid(box(low, high)))
        self.assert_same(Solid(EMPTY).of_box(low, high).expression, box(low, high))
        self.assert_error("Flat", Solid.of_box, high, low)
        self.assert_error("Flat", Solid.of_box, low, point(0, 1, 1))

    def test_parsed(self):
        self.assert_same(Solid.parsed("join\n  full\n  empty").expression, ("join", FULL, EMPTY))
        self.assert_same(Solid.parsed(text="empty").expression, EMPTY)
        self.assertIs(type(Solid.parsed("empty")), Solid)
        for expression in (CUBE, RING, CHECKERED):
            self.assertEqual(Solid.parsed(str(Solid(expression))), Solid(expression))
        self.assert_error("TextFault", Solid.parsed, "join\n  full", line=3, place=0)
        self.assert_error("TextFault", Solid.parsed, "", line=1, place=1)
        self.assert_error("TooLarge", Solid.parsed, expression_text(full_leaves(33)), what="size")
        self.assert_error(
            "TooLarge", Solid.parsed, expression_text(nested(16, FULL, lambda x: ("outside", x))), what="depth")
        self.assert_error("TooLarge", Solid.parsed, expression_text(levels_joined(range(13))), what="planes")

    def test_lists_are_new(self):
        solid = Solid(CUBE)
        expected = list(solid.planes)
        solid.planes.clear()
        list(solid).clear()
        self.assert_same(solid.planes, expected)
        self.assert_same(list(solid), halves_of(CUBE))
        self.assertIsNot(solid.planes, solid.planes)


if __name__ == "__main__":
    unittest.main()
