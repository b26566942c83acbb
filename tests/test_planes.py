"""Points 9 and 10: planes in their one form, sides and halves."""

import itertools
import random
import unittest
from fractions import Fraction

from everypoint.planes import (
    half_through, is_half, is_plane, make_half, make_plane, meeting_point, normal_of, opposite, parallel, plane_through,
    side_of, value_at)
from support import BIG, X0, Y0, Z0, SpaceTest, plane_at, point


def value_of(plane, place):
    x, y, z = [Fraction(*part) for part in place]
    return plane[0] * x + plane[1] * y + plane[2] * z + plane[3]


class TestMaking(SpaceTest):

    def test_one_form(self):
        self.assert_same(make_plane(0, 0, -2, 4), (0, 0, 1, -2))
        self.assert_same(make_plane(2, 4, 6, 8), (1, 2, 3, 4))
        self.assert_same(make_plane(2, 4, 6, 7), (2, 4, 6, 7))
        self.assert_same(make_plane(0, -3, 6, 0), (0, 1, -2, 0))
        self.assert_same(make_plane((1, 2), (1, 3), 0, (-5, 6)), (3, 2, 0, -5))
        self.assert_same(make_plane(-BIG, 0, 0, BIG), (1, 0, 0, -1))
        self.assert_same(make_plane((1, BIG), 0, 0, -1), (1, 0, 0, -BIG))

    def test_halves(self):
        self.assert_same(make_half(0, 0, (-1, 2), 3), ((0, 0, 1, -6), -1))
        self.assert_same(make_half(0, 0, 5, 0), ((0, 0, 1, 0), 1))
        self.assert_same(make_half(-1, 5, 5, 0), ((1, -5, -5, 0), -1))
        self.assert_same(make_half(0, -1, 5, 1), ((0, 1, -5, -1), -1))

    def test_no_normal_whatever_d_is(self):
        for d in (0, 1, -1, BIG, (1, 2)):
            self.assert_error("NoNormal", make_half, 0, 0, 0, d)
            self.assert_error("NoNormal", make_plane, 0, (0, 1), 0, d)

    def test_every_multiple_has_the_same_form(self):
        chooser = random.Random(11)
        for _ in range(200):
            parts = [chooser.randint(-4, 4) for _ in range(4)]
            if any(parts[:3]):
                plane, side = make_half(*parts)
                self.assertIs(is_plane(plane), True)
                factor = Fraction(chooser.choice((-7, -1, 1, 3)), chooser.randint(1, 5))
                scaled = [Fraction(part) * factor for part in parts]
                again = make_half(*[(part.numerator, part.denominator) for part in scaled])
                self.assert_same(again, (plane, side if factor > 0 else -side))
                place = [chooser.randint(-9, 9) for _ in range(3)]
                value = sum(a * b for a, b in zip(parts, place + [1]))
                self.assertEqual(side_of(plane, point(*place)) == side, value > 0)
                self.assertEqual(side_of(plane, point(*place)) == 0, value == 0)


class TestKinds(SpaceTest):

    def test_planes(self):
        for value in (X0, (0, 0, 1, 5), (0, 2, -4, 5), (1, -2, 3, 0), (BIG, -BIG, 1, 0), (0, 0, 2, 1)):
            self.assertIs(is_plane(value), True, value)
        for value in (
                (0, 0, 0, 1), (0, 0, 0, 0), (0, 0, 2, 4), (-1, 0, 0, 0), (0, -1, 5, 0), (0, 0, -1, 1), [0, 0, 1, 0],
                (0, 0, 1), (0, 0, 1, 0, 0), (0, 0, True, 0), (False, 0, 1, 0), (0, 0, (1, 1), 0), (0, 0, "1", 0), None,
                (BIG, BIG, 0, 0), (0, 0, 1, None)):
            self.assertIs(is_plane(value), False, value)

    def test_halves(self):
        for value in ((X0, 1), (X0, -1), ((0, 2, -4, 5), -1)):
            self.assertIs(is_half(value), True, value)
        for value in (
                (X0, 0), (X0, 2), (X0, True), [X0, 1], (X0,), (X0, 1, 1), (X0, (1, 1)), ((-1, 0, 0, 0), 1),
                (list(X0), 1), None, (1, X0), (X0, "+"), (X0, -2)):
            self.assertIs(is_half(value), False, value)

    def test_any_plain_value(self):
        self.assert_takes_plain_values(is_plane, right=[(0, 0, 1, 0)])
        self.assert_takes_plain_values(is_half, right=[((0, 0, 1, 0), 1)])


class TestSides(SpaceTest):

    def test_values(self):
        self.assert_same(value_at((0, 0, 1, -6), point(0, 0, (1, 2))), (-11, 2))
        self.assert_same(value_at((1, 2, 3, 4), point((1, 2), (1, 3), (1, 4))), (71, 12))
        self.assert_same(value_at(X0, point(0, 7, 7)), (0, 1))
        self.assert_same(value_at((BIG, 0, 1, -BIG), point(1, 0, (-1, BIG))), (-1, BIG))

    def test_against_fractions(self):
        chooser = random.Random(5)
        for _ in range(300):
            high = chooser.choice((3, BIG))
            plane = make_plane(1, chooser.randint(-high, high), chooser.randint(-high, high), chooser.randint(-9, 9))
            place = tuple(
                (part.numerator, part.denominator)
                for part in [Fraction(chooser.randint(-high, high), chooser.randint(1, 7)) for _ in range(3)])
            value = value_of(plane, place)
            self.assert_same(value_at(plane, place), (value.numerator, value.denominator))
            self.assert_same(side_of(plane, place), (value > 0) - (value < 0))

    def test_normals_are_vectors(self):
        self.assert_same(normal_of((2, -3, 0, 9)), point(2, -3, 0))

    def test_opposite(self):
        self.assert_same(opposite((X0, 1)), (X0, -1))
        self.assert_same(opposite((X0, -1)), (X0, 1))


class TestThrough(SpaceTest):

    def test_planes_through_points(self):
        self.assert_same(plane_through(point(0, 0, 2), point(1, 0, 2), point(0, 1, 2)), (0, 0, 1, -2))
        self.assert_same(plane_through(point(1, 0, 0), point(0, 1, 0), point(0, 0, 1)), (1, 1, 1, -1))
        self.assert_same(plane_through(point((1, 2), 0, 0), point(0, (1, 3), 0), point(0, 0, 1)), (2, 3, 1, -1))

    def test_the_order_of_the_points_does_not_matter(self):
        corners = [point(1, 2, 3), point(4, -5, 6), point((7, 2), 8, 0)]
        found = {plane_through(*order) for order in itertools.permutations(corners)}
        self.assertEqual(len(found), 1)
        for corner in corners:
            self.assertEqual(side_of(list(found)[0], corner), 0)

    def test_points_in_line(self):
        a, b, c = point(0, 0, 0), point(1, 1, 1), point(-2, -2, -2)
        for p, q, r in ((a, b, c), (a, a, b), (a, b, a), (b, a, a), (a, a, a)):
            self.assert_error("InLine", plane_through, p, q, r)
            for inside in (point(1, 2, 3), a, point(5, 5, 5)):
                self.assert_error("InLine", half_through, p, q, r, inside)

    def test_half_through(self):
        p, q, r = point(0, 0, 2), point(1, 0, 2), point(0, 1, 2)
        self.assert_same(half_through(p, q, r, point(9, 9, 3)), ((0, 0, 1, -2), 1))
        self.assert_same(half_through(p, q, r, point(9, 9, (3, 2))), ((0, 0, 1, -2), -1))
        for inside in (p, q, r, point(9, 9, 2)):
            self.assert_error("Flat", half_through, p, q, r, inside)


class TestMeeting(SpaceTest):

    def test_parallel(self):
        self.assertIs(parallel((0, 0, 1, 0), (0, 0, 2, 1)), True)
        self.assertIs(parallel(X0, X0), True)
        self.assertIs(parallel((2, -4, 6, 1), (1, -2, 3, 5)), True)
        self.assertIs(parallel(X0, Y0), False)
        self.assertIs(parallel((1, 2, 3, 0), (1, 2, 4, 0)), False)
        self.assertIs(parallel((BIG, 1, 0, 0), (BIG - 1, 1, 0, 0)), False)

    def test_meeting_point(self):
        self.assert_same(meeting_point(plane_at(0, 1), plane_at(1, -2), plane_at(2, 3)), point(1, -2, 3))
        self.assert_same(meeting_point((1, 1, 0, -1), (1, -1, 0, 0), (0, 0, 3, -1)), point((1, 2), (1, 2), (1, 3)))

    def test_no_single_point(self):
        for three in (
                (X0, X0, Y0), (X0, Y0, X0), (X0, plane_at(0, 1), Y0), (X0, Y0, (1, 1, 0, 0)), (X0, Y0, (1, 1, 0, 5)),
                (X0, X0, X0), (X0, plane_at(0, 1), plane_at(0, 2)), (Z0, (0, 0, 2, 1), (1, 1, 1, 1))):
            for order in itertools.permutations(three):
                self.assertIsNone(meeting_point(*order))

    def test_the_point_lies_on_all_three(self):
        chooser = random.Random(2)
        met = 0
        for _ in range(200):
            three = [make_plane(1, *[chooser.randint(-5, 5) for _ in range(3)]) for _ in range(3)]
            place = meeting_point(*three)
            if place is not None:
                met += 1
                for plane in three:
                    self.assertEqual(value_of(plane, place), 0)
                for order in itertools.permutations(three):
                    self.assert_same(meeting_point(*order), place)
        self.assertGreater(met, 150)


if __name__ == "__main__":
    unittest.main()
