"""Points 19 and 20."""

import itertools
import random
import unittest

from everypoint.expressions import planes_of, truth, without_moves
from everypoint.moves import inverse, make_move, mirror_axis, mirrors, moved_point, quarter_turn, scale_by, shift_by
from everypoint.planes import side_of
from everypoint.reading import read_expression, truth_rows
from everypoint.systems import sign_rows
from everypoint.vectors import plus, scaled
from samples import (
    BOUNDED, CHECKERED, CUBE, EMPTY, FULL, NOT_BOUNDED, TWO_IN_A_CORNER, TWO_IN_A_FACE, points_of, some_expression,
    some_planes, some_point, stripes, telling_points)
from support import BIG, X0, Y0, Z0, SpaceTest, lists_in, plane_at, point

A, B, C = ("half", X0, 1), ("half", Y0, 1), ("half", Z0, 1)
WAYS = [point(*parts) for parts in itertools.product(range(-4, 5), repeat=3)]
MOVES = [
    shift_by(point((1, 2), 0, -3)), scale_by(point(2, (-1, 3), 1)), mirror_axis(0), mirror_axis(1), mirror_axis(2),
    quarter_turn(0), quarter_turn(1, 2), quarter_turn(2, 3),
    make_move([[1, 2, 0], [0, 1, (1, 2)], [1, 0, -2]], [1, -1, 0]), make_move([[0, 1, 0], [1, 0, 0], [0, 0, 1]], [0, 0, 2])]


def true_at(expression, place):
    """What an expression is at a point on none of its planes, without its moved halves."""
    word = expression[0]
    if word == "half":
        side = side_of(expression[1], place)
        assert side != 0
        return side == expression[2]
    if word == "move":
        return true_at(expression[2], moved_point(inverse(expression[1]), place))
    told = [true_at(part, place) for part in expression[1:]]
    return {"empty": lambda: False, "full": lambda: True, "join": lambda: told[0] or told[1],
            "meet": lambda: told[0] and told[1], "take": lambda: told[0] and not told[1],
            "outside": lambda: not told[0]}[word]()


def reading_nearby(expression, place):
    """The reading, from points very near to the place on all sides; right if the cones there are wide."""
    planes = planes_of(expression)
    sides = [side_of(plane, place) for plane in planes]
    told = set()
    for way in WAYS:
        near = plus(place, scaled((1, 10 ** 6), way))
        found = [side_of(plane, near) for plane in planes]
        if 0 not in found:
            assert all(side in (0, other) for side, other in zip(sides, found))
            told.add(true_at(expression, near))
    return "on" if len(told) == 2 else "in" if True in told else "out"


class TestReading(SpaceTest):

    def assert_reading(self, expression, places, wanted):
        for place in places:
            self.assertEqual(read_expression(expression, point(*place)), wanted, (expression, place))

    def test_no_planes(self):
        self.assert_reading(FULL, [(0, 0, 0), (BIG, (1, BIG), -BIG)], "in")
        self.assert_reading(EMPTY, [(0, 0, 0)], "out")
        self.assert_reading(("outside", ("join", FULL, EMPTY)), [(0, 0, 0)], "out")
        self.assert_reading(("take", FULL, EMPTY), [(1, 2, 3)], "in")

    def test_points_on_no_plane_and_on_one(self):
        self.assert_reading(C, [(5, 5, 1), (0, 0, (1, BIG))], "in")
        self.assert_reading(C, [(5, 5, -1), (0, 0, (-1, BIG))], "out")
        self.assert_reading(C, [(5, 5, 0), (0, 0, 0)], "on")
        self.assert_reading(("half", Z0, -1), [(5, 5, -1)], "in")
        self.assert_reading(("half", (0, 0, 1, -6), -1), [(0, 0, 5), (0, 0, 0)], "in")

    def test_points_on_two_and_three_planes(self):
        quarter, corner = ("meet", A, B), ("meet", ("meet", A, B), C)
        self.assert_reading(quarter, [(0, 0, 0), (0, 0, 7), (0, 1, 0), (1, 0, 0)], "on")
        self.assert_reading(quarter, [(0, -1, 0), (-1, 0, 0), (-1, -1, 5)], "out")
        self.assert_reading(corner, [(0, 0, 0), (0, 0, 1), (2, 0, 1), (2, 0, 0)], "on")
        self.assert_reading(corner, [(0, 0, -1), (-1, 0, 0), (0, -2, 0)], "out")
        self.assert_reading(("outside", corner), [(0, 0, -1), (-1, 0, 0)], "in")
        self.assert_reading(CUBE, [(0, 0, 0), (1, 1, 1), (1, (1, 2), 0), (1, (1, 2), (1, 2)), (0, 1, (1, 3))], "on")
        self.assert_reading(CUBE, [(0, 0, 2), (1, 1, -1), (1, 1, (11, 10))], "out")

    def test_in_on_both_sides_of_a_plane(self):
        both = ("join", C, ("half", Z0, -1))
        self.assert_reading(both, [(0, 0, 0), (5, 5, 0)], "in")
        self.assert_reading(TWO_IN_A_FACE, [(1, (1, 2), (1, 2))], "in")
        self.assert_reading(TWO_IN_A_FACE, [(1, 0, (1, 2)), (1, 1, 1), (1, 0, 0)], "on")
        four = ("join", ("join", ("meet", A, B), ("meet", A, ("outside", B))), ("outside", A))
        self.assert_reading(four, [(0, 0, 0), (0, 5, 0), (5, 0, 1)], "in")
        eight = EMPTY
        for sides in itertools.product((1, -1), repeat=3):
            eight = ("join", eight, (
                "meet", ("half", X0, sides[0]), ("meet", ("half", Y0, sides[1]), ("half", Z0, sides[2]))))
        self.assert_reading(eight, [(0, 0, 0), (0, 0, 1), (1, 0, 2), (1, 2, 3)], "in")

    def test_leftovers_without_inside(self):
        self.assert_reading(("meet", C, ("half", Z0, -1)), [(0, 0, 0), (0, 0, 1)], "out")
        self.assert_reading(("take", C, C), [(0, 0, 0)], "out")
        # Two cubes that touch in a face, an edge and a corner: their meet has no inside.
        for shift in ((1, 0, 0), (1, 1, 0), (1, 1, 1)):
            touching = ("meet", CUBE, ("move", shift_by(point(*shift)), CUBE))
            self.assert_reading(touching, [(1, 1, 1), (1, (1, 2), (1, 2)), (1, 1, (1, 2))], "out")
        self.assert_reading(TWO_IN_A_CORNER, [(1, 1, 1)], "on")

    def test_many_planes_through_one_point(self):
        planes = [(1, 0, 0, 0), (0, 1, 0, 0), (0, 0, 1, 0), (1, 1, 0, 0), (1, -1, 0, 0), (0, 1, 1, 0), (0, 1, -1, 0),
                  (1, 0, 1, 0), (1, 0, -1, 0), (1, 1, 1, 0), (1, 1, -1, 0), (1, -1, 1, 0)]
        meet = join = None
        for plane in planes:
            half = ("half", plane, 1)
            meet = half if meet is None else ("meet", meet, half)
            join = half if join is None else ("join", join, half)
        for expression in (meet, join, ("join", join, ("half", (1, 0, 0, 0), -1)), ("take", join, meet),
                           ("meet", meet, ("half", (1, 1, 1, 0), -1))):
            for place in ((0, 0, 0), (1, 0, 0), (1, 1, 0), (1, -1, 0), (1, 2, 3), (1, 1, 1), (-1, -1, -2)):
                self.assertEqual(
                    read_expression(expression, point(*place)), reading_nearby(expression, point(*place)))
        self.assert_reading(meet, [(0, 0, 0)], "on")
        self.assert_reading(("join", join, ("half", (1, 0, 0, 0), -1)), [(0, 0, 0)], "in")
        self.assert_reading(("meet", meet, ("half", (1, 1, 1, 0), -1)), [(0, 0, 0)], "out")

    def test_nearby_points(self):
        chooser = random.Random(1)
        told = {}
        for _ in range(25):
            planes = some_planes(chooser, 4, 1)
            expression = some_expression(chooser, planes, 6)
            if chooser.random() < 0.4:
                expression = ("join", some_expression(chooser, planes, 2), ("move", chooser.choice(MOVES[2:8]), expression))
            for place in telling_points(planes_of(expression)[:4], chooser, 5):
                reading = read_expression(expression, place)
                self.assertEqual(reading, reading_nearby(expression, place), (expression, place))
                told[reading] = told.get(reading, 0) + 1
        self.assertGreater(min(told.values()), 10)
        self.assertEqual(len(told), 3)

    def test_under_a_move(self):
        """The second fact of point 20, also for moves that mirror."""
        chooser = random.Random(2)
        self.assertGreaterEqual(len([move for move in MOVES if mirrors(move)]), 4)
        for move in MOVES:
            for expression in (CUBE, TWO_IN_A_CORNER, some_expression(chooser, some_planes(chooser, 4, 2), 6)):
                moved = ("move", move, expression)
                for place in points_of(expression, 3, 6):
                    wanted = read_expression(expression, place)
                    self.assertEqual(read_expression(moved, moved_point(move, place)), wanted)
                    twice = ("move", inverse(move), moved)
                    self.assertEqual(read_expression(twice, place), wanted)

    def test_a_mirror_leaves_the_other_axes(self):
        self.assert_reading(("move", mirror_axis(0), C), [(1, 1, 1)], "in")
        self.assert_reading(("move", mirror_axis(2), C), [(1, 1, -1)], "in")
        self.assert_reading(("move", quarter_turn(0, 2), C), [(1, 1, -1)], "in")

    def test_twelve_planes(self):
        places = [point(*place) for place in itertools.product((-1, 0, (1, 2), 1, 2), repeat=3)]
        self.assertEqual(len(planes_of(CHECKERED)), 12)
        for place in places[::3]:
            x, y, z = [
                "in" if 0 < part[0] < part[1] or 2 * part[1] < part[0] < 3 * part[1] else
                "on" if part in ((0, 1), (1, 1), (2, 1), (3, 1)) else "out" for part in place]
            if "on" not in (x, y, z):
                wanted = "in" if ((x == "in") != (y == "in") if z == "in" else x == "in") else "out"
                self.assertEqual(read_expression(CHECKERED, place), wanted, place)
        self.assert_reading(CHECKERED, [(0, 0, 0), (1, 1, 1), ((1, 2), 0, (1, 2)), ((1, 2), (1, 2), 0)], "on")
        self.assert_reading(CHECKERED, [(0, 5, -3)], "on")

    def test_larger_expressions(self):
        """Size 800 and depth 40 are accepted; such an expression is not too large here."""
        parts = [("meet", ("half", plane_at(0, k % 12), 1), ("half", plane_at(0, k % 12), 1)) for k in range(256)]
        while len(parts) > 1:
            parts = [("join", *parts[k:k + 2]) for k in range(0, len(parts), 2)]
        wide = parts[0]
        self.assert_reading(wide, [(0, 0, 0)], "on")
        self.assert_reading(wide, [(1, 0, 0)], "in")
        deep = C
        for _ in range(39):
            deep = ("outside", deep)
        self.assert_reading(deep, [(0, 0, 1)], "out")
        self.assert_reading(deep, [(0, 0, 0)], "on")
        self.assertEqual(len(truth_rows(wide)), 13)


class TestTruthRows(SpaceTest):

    def test_known_rows(self):
        self.assert_same(truth_rows(("outside", C)), [((-1,), True), ((1,), False)])
        self.assert_same(truth_rows(FULL), [((), True)])
        self.assert_same(truth_rows(EMPTY), [((), False)])
        layer = ("meet", C, ("half", (0, 0, 1, -2), -1))
        # The planes ascend: z = 2 comes before z = 0.
        self.assert_same(truth_rows(layer), [((-1, -1), False), ((-1, 1), True), ((1, 1), False)])
        self.assert_same(truth_rows(("take", B, A)), [
            ((-1, -1), False), ((-1, 1), False), ((1, -1), True), ((1, 1), False)])

    def test_moved_planes(self):
        self.assert_same(truth_rows(("move", quarter_turn(0, 2), C)), [((-1,), True), ((1,), False)])
        self.assert_same(
            truth_rows(("meet", C, ("move", shift_by(point(0, 0, 2)), ("half", Z0, -1)))),
            [((-1, -1), False), ((-1, 1), True), ((1, 1), False)])

    def test_all_the_sign_rows(self):
        chooser = random.Random(4)
        for _ in range(20):
            expression = ("move", chooser.choice(MOVES), some_expression(chooser, some_planes(chooser, 5), 7))
            planes = planes_of(expression)
            rows = truth_rows(expression)
            self.assert_same([signs for signs, told in rows], sign_rows(planes))
            bare = without_moves(expression)
            for signs, told in rows:
                self.assertIs(told, truth(bare, dict(zip(planes, signs))))

    def test_twelve_planes(self):
        chooser = random.Random(5)
        planes = sorted(some_planes(chooser, 12, 40))
        expression = ("half", planes[0], 1)
        for plane in planes[1:]:
            expression = ("take", ("half", plane, 1), expression)
        rows = truth_rows(expression)
        self.assertEqual(len(rows), 299)
        self.assertEqual(rows, sorted(rows))
        for signs, told in rows[::7]:
            truth_so_far = signs[0] == 1
            for side in signs[1:]:
                truth_so_far = side == 1 and not truth_so_far
            self.assertIs(told, truth_so_far)
        self.assertEqual(len(truth_rows(CHECKERED)), 125)
        self.assertEqual(sum(told for signs, told in truth_rows(stripes(0))), 2)

    def test_cones_are_sign_rows(self):
        """The first fact of point 20."""
        chooser = random.Random(6)
        for expression in list(BOUNDED.values())[:6] + list(NOT_BOUNDED.values()):
            planes = planes_of(expression)
            rows = truth_rows(expression)
            for place in points_of(expression, 7, 8) + [some_point(chooser)]:
                sides = [side_of(plane, place) for plane in planes]
                told = [
                    truth_there for signs, truth_there in rows
                    if all(side in (0, other) for side, other in zip(sides, signs))]
                wanted = "in" if all(told) else "on" if any(told) else "out"
                self.assertEqual(read_expression(expression, place), wanted)

    def test_the_list_is_new(self):
        found = truth_rows(CUBE)
        expected = list(found)
        found.clear()
        self.assert_same(truth_rows(CUBE), expected)
        self.assertEqual(len(lists_in(truth_rows(CUBE))), 1)


if __name__ == "__main__":
    unittest.main()
