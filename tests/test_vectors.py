"""Point 8: vectors, points, their order, strictly between."""

import random
import unittest
from fractions import Fraction

from everypoint.vectors import (
    axis_vector, blend, compare_points, cross, dot, in_line, is_vector, is_zero, minus, plus, scaled, sort_points,
    strictly_between, triple, vector)
from support import BIG, SpaceTest, point


def pair(number):
    number = Fraction(number)
    return (number.numerator, number.denominator)


def fractions(v):
    return [Fraction(*part) for part in v]


def vector_of(parts):
    return tuple(pair(part) for part in parts)


def some_vectors(count, seed):
    chooser = random.Random(seed)
    found = []
    for _ in range(count):
        high = chooser.choice((3, 9, BIG))
        found.append(tuple(
            pair(Fraction(chooser.randint(-high, high), chooser.randint(1, min(high, 6)))) for _ in range(3)))
    return found


class TestMaking(SpaceTest):

    def test_integers_become_ratios(self):
        self.assert_same(vector(1, (-3, 2), 0), ((1, 1), (-3, 2), (0, 1)))
        self.assert_same(vector(-BIG, BIG, (1, BIG)), ((-BIG, 1), (BIG, 1), (1, BIG)))

    def test_is_vector(self):
        for value in (point(1, 2, 3), ((1, 2), (0, 1), (-5, 3)), ((BIG, 1), (-BIG, 1), (1, BIG))):
            self.assertIs(is_vector(value), True)
        one = (1, 1)
        for value in (
                (1, 2, 3), (one, one), (one, one, one, one), [one, one, one], (one, one, 1), (one, one, (2, 4)),
                (one, one, (True, 1)), (one, (1, True), one), (one, one, [1, 1]), None, "abc", one, (one, one, None)):
            self.assertIs(is_vector(value), False, value)

    def test_any_plain_value(self):
        self.assert_takes_plain_values(is_vector, right=[((1, 1), (0, 1), (0, 1))])

    def test_axis_vectors(self):
        self.assert_same(axis_vector(0), point(1, 0, 0))
        self.assert_same(axis_vector(1), point(0, 1, 0))
        self.assert_same(axis_vector(2), point(0, 0, 1))

    def test_is_zero(self):
        self.assertIs(is_zero(point(0, 0, 0)), True)
        for v in (point(1, 0, 0), point(0, -1, 0), point(0, 0, (1, BIG))):
            self.assertIs(is_zero(v), False)


class TestReckoning(SpaceTest):

    def test_small_cases(self):
        u, v, w = point(1, 2, 3), point(4, 5, 6), point(7, 8, 10)
        self.assert_same(plus(u, v), point(5, 7, 9))
        self.assert_same(minus(u, v), point(-3, -3, -3))
        self.assert_same(scaled((-1, 2), u), ((-1, 2), (-1, 1), (-3, 2)))
        self.assert_same(dot(u, v), (32, 1))
        self.assert_same(cross(u, v), point(-3, 6, -3))
        self.assert_same(triple(u, v, w), (-3, 1))
        self.assert_same(blend(u, v, (1, 3)), point(2, 3, 4))
        self.assert_same(blend(u, v, (0, 1)), u)
        self.assert_same(blend(u, v, (1, 1)), v)
        self.assert_same(blend(u, v, (-1, 1)), point(-2, -1, 0))
        self.assert_same(blend(u, v, (2, 1)), point(7, 8, 9))

    def test_against_fractions(self):
        vectors = some_vectors(14, 3)
        for u in vectors:
            for v in vectors:
                a, b = fractions(u), fractions(v)
                self.assert_same(plus(u, v), vector_of(x + y for x, y in zip(a, b)))
                self.assert_same(minus(u, v), vector_of(x - y for x, y in zip(a, b)))
                self.assert_same(scaled(u[0], v), vector_of(a[0] * y for y in b))
                self.assert_same(dot(u, v), pair(sum(x * y for x, y in zip(a, b))))
                normal = [a[1] * b[2] - a[2] * b[1], a[2] * b[0] - a[0] * b[2], a[0] * b[1] - a[1] * b[0]]
                self.assert_same(cross(u, v), vector_of(normal))
                self.assert_same(blend(u, v, u[1]), vector_of(x + a[1] * (y - x) for x, y in zip(a, b)))
                self.assert_same(compare_points(u, v), (a > b) - (a < b))
                for w in vectors[:4]:
                    self.assert_same(triple(w, u, v), pair(sum(x * y for x, y in zip(fractions(w), normal))))


class TestOrder(SpaceTest):

    def test_by_x_then_y_then_z(self):
        self.assert_same(compare_points(point(0, 9, 9), point(1, 0, 0)), -1)
        self.assert_same(compare_points(point(1, 2, 0), point(1, 1, 9)), 1)
        self.assert_same(compare_points(point(1, 1, 1), point(1, 1, 2)), -1)
        self.assert_same(compare_points(point(1, 1, 1), point(1, 1, 1)), 0)

    def test_by_values_and_not_as_tuples(self):
        self.assert_same(compare_points(point((1, 3), 0, 0), point((1, 2), 0, 0)), -1)
        self.assert_same(compare_points(point(0, (3, 2), 0), point(0, (2, 1), 0)), -1)

    def test_sort_points(self):
        listed = [point(1, 0, 0), point((1, 2), 5, 5), point((1, 3), 9, 9), point(1, 0, 0), point(1, -1, 0)]
        self.assert_same(
            sort_points(listed), [point((1, 3), 9, 9), point((1, 2), 5, 5), point(1, -1, 0), point(1, 0, 0)])
        self.assert_same(sort_points([]), [])

    def test_sort_points_against_fractions(self):
        points = some_vectors(60, 5) * 2
        expected = [vector_of(p) for p in sorted({tuple(fractions(p)) for p in points})]
        self.assert_same(sort_points(points), expected)


class TestLines(SpaceTest):

    def test_in_line(self):
        p, q = point(0, 0, 0), point(2, 4, 6)
        self.assertIs(in_line(p, q, point(1, 2, 3)), True)
        self.assertIs(in_line(p, q, point(-3, -6, -9)), True)
        self.assertIs(in_line(p, q, point(1, 2, 4)), False)
        self.assertIs(in_line(p, p, q), True)
        self.assertIs(in_line(p, q, p), True)
        self.assertIs(in_line(q, p, p), True)
        self.assertIs(in_line(p, p, p), True)
        self.assertIs(in_line(p, point(BIG, 1, 0), point(2 * BIG, 2, 0)), True)
        self.assertIs(in_line(p, point(BIG, 1, 0), point(2 * BIG, 2, (1, BIG))), False)

    def test_strictly_between(self):
        p, q = point(0, 0, 0), point(2, 4, 6)
        for r, wanted in (
                (point(1, 2, 3), True), (scaled((1, BIG), q), True), (p, False), (q, False),
                (point(-1, -2, -3), False), (point(3, 6, 9), False), (point(1, 2, 4), False), (point(1, 1, 3), False)):
            self.assertIs(strictly_between(p, q, r), wanted, r)
            self.assertIs(strictly_between(q, p, r), wanted, r)

    def test_strictly_between_along_each_axis(self):
        for axis in range(3):
            p, q = point(5, 5, 5), plus(point(5, 5, 5), scaled((-3, 1), axis_vector(axis)))
            self.assertIs(strictly_between(p, q, blend(p, q, (1, 2))), True)
            self.assertIs(strictly_between(p, q, plus(blend(p, q, (1, 2)), axis_vector((axis + 1) % 3))), False)
            self.assertIs(strictly_between(p, q, blend(p, q, (3, 2))), False)

    def test_nothing_is_between_equal_points(self):
        p = point(1, 2, 3)
        self.assertIs(strictly_between(p, p, p), False)
        self.assertIs(strictly_between(p, p, point(0, 0, 0)), False)


if __name__ == "__main__":
    unittest.main()
