"""Points 17 and 63: moves, mirroring, quarter turns."""

import itertools
import random
import unittest
from fractions import Fraction

from everypoint.errors import Singular
from everypoint.moves import (
    STILL, combine, determinant, inverse, is_move, make_move, mirror_axis, mirrors, moved_half, moved_point,
    moved_vector, quarter_turn, scale_by, shift_by)
from everypoint.planes import is_half, make_half, side_of
from support import BIG, X0, Y0, Z0, SpaceTest, plane_at, point

UNIT = ((1, 0, 0), (0, 1, 0), (0, 0, 1))


def pair(number):
    number = Fraction(number)
    return (number.numerator, number.denominator)


def some_moves(count, seed, high=4):
    """Moves with any entries, and the matrices of fractions from which they were made."""
    chooser = random.Random(seed)
    found = []
    while len(found) < count:
        entries = [Fraction(chooser.randint(-high, high), chooser.randint(1, 3)) for _ in range(12)]
        rows = [entries[0:3], entries[3:6], entries[6:9]]
        if determinant_of(rows) != 0:
            move = make_move([[pair(x) for x in row] for row in rows], [pair(x) for x in entries[9:]])
            found.append((move, rows, entries[9:]))
    return found


def determinant_of(rows):
    (a, b, c), (d, e, f), (g, h, i) = rows
    return a * (e * i - f * h) - b * (d * i - f * g) + c * (d * h - e * g)


PLACES = [point(x, y, z) for x, y, z in itertools.product((-3, 0, (1, 2), 2), repeat=3)]


class MoveTest(SpaceTest):

    def assert_moves_points_of(self, move, half):
        """Point 17: exactly the moved points lie in the moved half, and those on the plane stay on it."""
        found = moved_half(move, half)
        self.assertIs(is_half(found), True)
        for place in PLACES:
            side = side_of(half[0], place)
            moved_side = side_of(found[0], moved_point(move, place))
            self.assertEqual(moved_side * found[1], side * half[1])


class TestMaking(MoveTest):

    def test_still(self):
        self.assert_same(STILL, (tuple(point(*row) for row in UNIT), point(0, 0, 0)))
        self.assert_same(make_move(UNIT, (0, 0, 0)), STILL)

    def test_make_move(self):
        rows = [[1, (1, 2), 0], (0, 3, (0, 1)), [0, 0, (-1, 5)]]
        shift = [1, (-2, 3), 0]
        expected = ((point(1, (1, 2), 0), point(0, 3, 0), point(0, 0, (-1, 5))), point(1, (-2, 3), 0))
        self.assert_same(make_move(rows, shift), expected)
        self.assert_same(make_move(tuple(tuple(row) for row in rows), tuple(shift)), expected)
        self.assertEqual(rows, [[1, (1, 2), 0], (0, 3, (0, 1)), [0, 0, (-1, 5)]])
        self.assertEqual(shift, [1, (-2, 3), 0])

    def test_singular(self):
        for rows in (
                ((0, 0, 0), (0, 1, 0), (0, 0, 1)), ((1, 2, 3), (2, 4, 6), (0, 0, 1)), ((1, 2, 3), (4, 5, 6), (7, 8, 9)),
                ((0, 0, 0),) * 3, (((1, 2), (1, 3), 0), (3, 2, 0), (0, 0, 1)), ((BIG, 1, 0), (BIG, 1, 0), (0, 0, 1))):
            self.assert_error("Singular", make_move, rows, (1, 2, 3))
            self.assert_error("Singular", make_move, [list(row) for row in rows], [0, 0, 0])

    def test_is_move(self):
        for move, rows, shift in some_moves(20, 1):
            self.assertIs(is_move(move), True)
        rows, shift = STILL
        for value in (
                (rows,), (rows, shift, shift), [rows, shift], (list(rows), shift), (rows, list(shift)), (rows[:2], shift),
                (rows + (shift,), shift), ((rows[0], rows[0], rows[2]), shift), ((shift, rows[1], rows[2]), shift),
                ((list(rows[0]), rows[1], rows[2]), shift), (UNIT, shift), (rows, (0, 0, 0)), (rows, shift[:2]), None,
                (((True, 1), (0, 1), (0, 1)), rows[1], rows[2]), ((((2, 2), (0, 1), (0, 1)), rows[1], rows[2]), shift),
                (rows, None), (None, shift), rows, "move"):
            self.assertIs(is_move(value), False, value)

    def test_any_plain_value(self):
        self.assert_takes_plain_values(is_move)

    def test_shift_and_scale(self):
        step = point(1, (-1, 2), 0)
        self.assert_same(shift_by(step), (STILL[0], step))
        self.assert_same(shift_by(point(0, 0, 0)), STILL)
        self.assert_same(
            scale_by(point(2, (-1, 3), BIG)), make_move(((2, 0, 0), (0, (-1, 3), 0), (0, 0, BIG)), (0, 0, 0)))
        self.assert_same(moved_point(scale_by(point(2, -3, (1, 2))), point(1, 1, 1)), point(2, -3, (1, 2)))
        for factors in itertools.product((0, 1, -2), repeat=3):
            if 0 in factors:
                self.assert_error("Singular", scale_by, point(*factors))
            else:
                self.assertIs(is_move(scale_by(point(*factors))), True)

    def test_mirrors_of_the_axes(self):
        place = point(1, 2, 3)
        self.assert_same(moved_point(mirror_axis(0), place), point(-1, 2, 3))
        self.assert_same(moved_point(mirror_axis(1), place), point(1, -2, 3))
        self.assert_same(moved_point(mirror_axis(2), place), point(1, 2, -3))
        for axis in range(3):
            self.assertIs(is_move(mirror_axis(axis)), True)
            self.assertIs(mirrors(mirror_axis(axis)), True)

    def test_quarter_turns(self):
        place = point(1, 2, 3)
        for axis, turned in ((0, (1, -3, 2)), (1, (3, 2, -1)), (2, (-2, 1, 3))):
            self.assert_same(moved_point(quarter_turn(axis), place), point(*turned))
            self.assert_same(quarter_turn(axis), quarter_turn(axis, 1))
            self.assert_same(quarter_turn(axis, 0), STILL)
            for times in range(4):
                expected = place
                for _ in range(times):
                    expected = moved_point(quarter_turn(axis), expected)
                self.assert_same(moved_point(quarter_turn(axis, times), place), expected)
                self.assertIs(mirrors(quarter_turn(axis, times)), False)
                self.assertIs(is_move(quarter_turn(axis, times)), True)
            self.assert_same(combine(quarter_turn(axis, 3), quarter_turn(axis)), STILL)
        self.assert_same(moved_point(quarter_turn(0, 2), place), point(1, -2, -3))
        self.assert_same(moved_point(quarter_turn(2, 3), place), point(2, -1, 3))


class TestMoving(MoveTest):

    def test_points_and_vectors(self):
        for move, rows, shift in some_moves(30, 2):
            for place in PLACES[::5]:
                parts = [Fraction(*part) for part in place]
                images = [sum(x * y for x, y in zip(row, parts)) for row in rows]
                self.assert_same(moved_vector(move, place), tuple(pair(x) for x in images))
                self.assert_same(moved_point(move, place), tuple(pair(x + y) for x, y in zip(images, shift)))

    def test_determinants(self):
        for move, rows, shift in some_moves(60, 3):
            value = determinant_of(rows)
            self.assert_same(determinant(move), pair(value))
            self.assertIs(mirrors(move), value < 0)
        self.assert_same(determinant(STILL), (1, 1))
        self.assertIs(mirrors(STILL), False)

    def test_combine_does_the_first_one_first(self):
        turn, shift = quarter_turn(2), shift_by(point(1, 0, 0))
        self.assert_same(moved_point(combine(turn, shift), point(1, 0, 0)), point(1, 1, 0))
        self.assert_same(moved_point(combine(shift, turn), point(1, 0, 0)), point(0, 2, 0))
        moves = [move for move, rows, steps in some_moves(8, 4)]
        for first, second in itertools.product(moves, moves):
            both = combine(first, second)
            self.assertIs(is_move(both), True)
            for place in PLACES[::13]:
                self.assert_same(moved_point(both, place), moved_point(second, moved_point(first, place)))

    def test_inverse(self):
        great = make_move(((BIG, 1, (1, BIG)), (0, -BIG, 2), (5, 0, 1)), (BIG, (1, BIG), -BIG))
        for move in [move for move, rows, shift in some_moves(40, 5)] + [STILL, great]:
            back = inverse(move)
            self.assertIs(is_move(back), True)
            self.assert_same(combine(move, back), STILL)
            self.assert_same(combine(back, move), STILL)
            self.assert_same(inverse(back), move)


class TestHalves(MoveTest):

    def test_the_cases_of_the_document(self):
        self.assert_same(moved_half(quarter_turn(0, 2), (Z0, 1)), (Z0, -1))
        self.assert_same(moved_half(mirror_axis(0), (Z0, 1)), (Z0, 1))

    def test_mirroring_moves(self):
        self.assert_same(moved_half(mirror_axis(2), (Z0, 1)), (Z0, -1))
        self.assert_same(moved_half(mirror_axis(2), ((0, 0, 1, -5), 1)), ((0, 0, 1, 5), -1))
        self.assert_same(moved_half(mirror_axis(1), ((1, 1, 0, 0), -1)), ((1, -1, 0, 0), -1))
        self.assert_same(moved_half(scale_by(point(-2, -2, -2)), ((1, 1, 0, 4), 1)), ((1, 1, 0, -8), -1))

    def test_shifts_scales_and_turns(self):
        self.assert_same(moved_half(shift_by(point(0, 0, (1, 2))), (Z0, 1)), ((0, 0, 2, -1), 1))
        self.assert_same(moved_half(shift_by(point(9, 9, 0)), (Z0, -1)), (Z0, -1))
        self.assert_same(moved_half(scale_by(point(2, 1, 1)), (plane_at(0, 1), 1)), (plane_at(0, 2), 1))
        self.assert_same(moved_half(quarter_turn(2), (X0, 1)), (Y0, 1))
        self.assert_same(moved_half(quarter_turn(2), (Y0, 1)), (X0, -1))

    def test_still_keeps_halves(self):
        for half in ((X0, 1), ((0, 2, -4, 5), -1), ((BIG, 1, -BIG, 3), 1)):
            self.assert_same(moved_half(STILL, half), half)

    def test_some_moves_and_halves(self):
        chooser = random.Random(6)
        for move, rows, shift in some_moves(60, 7):
            half = make_half(1, *[chooser.randint(-4, 4) for _ in range(3)])
            half = (half[0], chooser.choice((1, -1)))
            self.assert_moves_points_of(move, half)
            self.assert_same(moved_half(inverse(move), moved_half(move, half)), half)

    def test_great_integers(self):
        great = make_move(((BIG, 1, (1, BIG)), (0, -BIG, 2), (5, 0, 1)), (BIG, (1, BIG), -BIG))
        for half in ((X0, 1), ((BIG, -BIG, 1, BIG), -1)):
            self.assert_moves_points_of(great, half)

    def test_moves_one_after_the_other(self):
        moves = [move for move, rows, shift in some_moves(6, 8)]
        for first, second in itertools.product(moves, moves):
            for half in ((X0, 1), ((1, 2, -3, 4), -1)):
                self.assert_same(
                    moved_half(combine(first, second), half), moved_half(second, moved_half(first, half)))


class TestErrors(SpaceTest):

    def test_a_move_that_is_singular_by_its_fractions(self):
        with self.assertRaises(Singular):
            make_move((((1, 3), (1, 6), 0), (2, 1, 0), (0, 0, 1)), (0, 0, 0))


if __name__ == "__main__":
    unittest.main()
