"""Points 11 to 16: conditions, refutations, dimensions, pair tables and sign rows."""

import itertools
import math
import random
import unittest
from fractions import Fraction

from everypoint.planes import make_plane, side_of
from everypoint.systems import (
    closed, common_point, dimension, has_point, holds, is_conditions, is_pair_table, is_refutation, pair_table,
    sign_rows)
from everypoint.vectors import is_vector
from support import BIG, X0, Y0, Z0, SpaceTest, lists_in, plane_at, point

NEEDS = (-2, -1, 0, 1, 2)
ORIGIN = point(0, 0, 0)


def holds_here(conditions, place):
    """Point 11, word for word, with fractions."""
    x, y, z = [Fraction(*part) for part in place]
    for (a, b, c, d), need in conditions:
        value = a * x + b * y + c * z + d
        if not {1: value > 0, 2: value >= 0, 0: value == 0, -1: value < 0, -2: value <= 0}[need]:
            return False
    return True


def refutes(conditions, multipliers):
    """Point 12, word for word, with fractions."""
    sums = [Fraction(0)] * 4
    strict = False
    for (plane, need), m in zip(conditions, multipliers):
        if need != 0 and m[0] < 0:
            return False
        strict = strict or (need in (1, -1) and m[0] > 0)
        for k in range(4):
            sums[k] += Fraction(*m) * (-1 if need < 0 else 1) * plane[k]
    return sums[:3] == [0, 0, 0] and (sums[3] < 0 or (sums[3] == 0 and strict))


def some_plane(chooser, high):
    while True:
        parts = [chooser.randint(-high, high) for _ in range(4)]
        if any(parts[:3]):
            return make_plane(*parts)


def some_conditions(chooser, count, high, needs=NEEDS):
    found = [(some_plane(chooser, high), chooser.choice(needs)) for _ in range(count)]
    if count > 4 and chooser.random() < 0.5:
        # Most of the sides are those of one place, so that there are systems of both kinds.
        place = point(*[chooser.randint(-high, high) for _ in range(3)])
        found = [
            (plane, side_of(plane, place) * chooser.choice((1, 2)) if chooser.random() < 0.97 else need)
            for plane, need in found]
    return found


def box(low, high):
    return [(plane_at(axis, low), 1) for axis in range(3)] + [(plane_at(axis, high), -1) for axis in range(3)]


class SystemTest(SpaceTest):

    def assert_settled(self, conditions):
        """common_point gives a right answer; it is checked here and by holds and is_refutation."""
        before = list(conditions)
        answer = common_point(conditions)
        self.assertEqual(conditions, before)
        self.assertIsInstance(answer, tuple)
        self.assertEqual(len(answer), 2)
        kind, found = answer
        self.assertIs(has_point(conditions), kind == "point")
        if kind == "point":
            self.assertTrue(is_vector(found))
            self.assertTrue(holds_here(conditions, found), conditions)
            self.assertIs(holds(conditions, found), True)
        else:
            self.assertEqual(kind, "none")
            self.assertIsInstance(found, list)
            self.assertTrue(refutes(conditions, found), conditions)
            self.assertIs(is_refutation(conditions, found), True)
        self.assert_same(common_point(before), answer)
        return kind


class TestConditions(SpaceTest):

    def test_is_conditions(self):
        for value in ([], [(X0, 1)], [(X0, need) for need in NEEDS], [(X0, 1)] * 100):
            self.assertIs(is_conditions(value), True)
        for value in (
                (), ((X0, 1),), [(X0, 3)], [(X0, -3)], [(X0, True)], [(X0, False)], [[X0, 1]], [(X0,)], [(X0, 1, 1)],
                [((0, 0, 2, 4), 1)], [(X0, 1), None], [(X0, (1, 1))], [X0], None, "", {}, [((True, 0, 0, 0), 1)],
                [(X0, "1")], {(X0, 1): 1}):
            self.assertIs(is_conditions(value), False, value)

    def test_any_plain_value(self):
        half = ((0, 0, 1, 0), 1)
        self.assert_takes_plain_values(is_conditions, right=[[], [half], [half] * 100000])

    def test_holds_by_need(self):
        for need, wanted in (
                (1, (False, False, True)), (2, (False, True, True)), (0, (False, True, False)),
                (-1, (True, False, False)), (-2, (True, True, False))):
            for value, told in zip((-1, 0, 1), wanted):
                self.assertIs(holds([(Z0, need)], point(5, 5, value)), told, (need, value))
                self.assertIs(holds([(Z0, need)], point(5, 5, (value, BIG) if value else 0)), told)

    def test_holds_for_all(self):
        self.assertIs(holds([], ORIGIN), True)
        self.assertIs(holds([(X0, 2), (Y0, -2), (Z0, 0)], ORIGIN), True)
        self.assertIs(holds([(X0, 2), (Y0, -2), (Z0, 1)], ORIGIN), False)
        self.assertIs(holds([(X0, 1), (Y0, -2), (Z0, 0)], ORIGIN), False)

    def test_closed(self):
        listed = [(X0, -2), (X0, -1), (X0, 0), (X0, 1), (X0, 2), (X0, 1)]
        self.assert_same(closed(listed), [(X0, -2), (X0, -2), (X0, 0), (X0, 2), (X0, 2), (X0, 2)])
        self.assert_same(closed([]), [])
        self.assertEqual(listed[1], (X0, -1))


class TestRefutations(SpaceTest):

    def test_example(self):
        self.assertIs(is_refutation([(Z0, 1), (Z0, -1)], [(1, 1), (1, 1)]), True)

    def test_the_empty_list_has_none(self):
        self.assertIs(is_refutation([], []), False)

    def test_sum_zero_needs_a_strict_condition(self):
        ones = [(1, 1), (1, 1)]
        self.assertIs(is_refutation([(Z0, 2), (Z0, -2)], ones), False)
        self.assertIs(is_refutation([(Z0, 1), (Z0, -2)], ones), True)
        self.assertIs(is_refutation([(Z0, 2), (Z0, -1)], ones), True)
        self.assertIs(is_refutation([(Z0, 2), (Z0, -2), (X0, 1)], ones + [(0, 1)]), False)
        self.assertIs(is_refutation([(Z0, 1), (Z0, 1), (Z0, -2)], [(0, 1), (1, 1), (1, 1)]), True)

    def test_sum_below_zero(self):
        # z >= 2 and z <= 1.
        conditions = [(plane_at(2, 2), 2), (plane_at(2, 1), -2)]
        self.assertIs(is_refutation(conditions, [(1, 1), (1, 1)]), True)
        self.assertIs(is_refutation(conditions, [(1, BIG), (1, BIG)]), True)
        self.assertIs(is_refutation(conditions, [(0, 1), (0, 1)]), False)
        self.assertIs(is_refutation(conditions, [(-1, 1), (-1, 1)]), False)
        self.assertIs(is_refutation(conditions, [(1, 1), (1, 2)]), False)
        # z >= 1 and z <= 2 have common points.
        self.assertIs(is_refutation([(plane_at(2, 1), 2), (plane_at(2, 2), -2)], [(1, 1), (1, 1)]), False)

    def test_multipliers_below_zero_for_need_zero(self):
        # z = 1 and z = 2.
        conditions = [(plane_at(2, 1), 0), (plane_at(2, 2), 0)]
        self.assertIs(is_refutation(conditions, [(-1, 1), (1, 1)]), True)
        self.assertIs(is_refutation(conditions, [(1, 1), (-1, 1)]), False)
        # z = 2 and z <= 1, so the multiplier of the equation is above zero; z = 0 and z >= 1, so it is below.
        self.assertIs(is_refutation([(plane_at(2, 2), 0), (plane_at(2, 1), -2)], [(1, 1), (1, 1)]), True)
        self.assertIs(is_refutation([(Z0, 0), (plane_at(2, 1), 2)], [(-1, 1), (1, 1)]), True)
        self.assertIs(is_refutation([(Z0, 2), (plane_at(2, 1), -2)], [(-1, 1), (-1, 1)]), False)

    def test_each_axis_must_cancel(self):
        for plane in (X0, Y0, Z0):
            self.assertIs(is_refutation([(plane, 1)], [(1, 1)]), False)
            self.assertIs(is_refutation([(plane, -1)], [(1, 1)]), False)

    def test_wrong_values(self):
        conditions = [(Z0, 1), (Z0, -1)]
        for value in (
                ((1, 1), (1, 1)), [(1, 1)], [(1, 1), (1, 1), (0, 1)], [1, 1], [(2, 2), (1, 1)], [(True, 1), (1, 1)],
                [(1, True), (1, 1)], [[1, 1], [1, 1]], [None, (1, 1)], None, "", {}, [], 7, [(1, 1), (1, 0)]):
            self.assertIs(is_refutation(conditions, value), False, value)

    def test_any_plain_value(self):
        self.assert_takes_plain_values(is_refutation, [(Z0, 1), (Z0, -1)])
        self.assert_takes_plain_values(is_refutation, [])
        self.assert_takes_plain_values(is_refutation, [(Z0, 1)])


class TestCommonPoint(SystemTest):

    def test_the_empty_list(self):
        self.assertEqual(self.assert_settled([]), "point")

    def test_one_condition(self):
        for plane in (X0, Y0, Z0, (2, -3, 5, 7), (BIG, -BIG, 1, BIG)):
            for need in NEEDS:
                self.assertEqual(self.assert_settled([(plane, need)]), "point")

    def test_two_conditions_of_parallel_planes(self):
        for first, second in itertools.product(NEEDS, NEEDS):
            for low, high in ((0, 0), (0, 1), (1, 0)):
                conditions = [(plane_at(0, low), first), (plane_at(0, high), second)]
                places = [point((k, 2), 0, 0) for k in range(-2, 6)]
                wanted = "point" if any(holds_here(conditions, place) for place in places) else "none"
                self.assertEqual(self.assert_settled(conditions), wanted, conditions)

    def test_known_systems(self):
        self.assertEqual(self.assert_settled(box(0, 1)), "point")
        self.assertEqual(self.assert_settled(box(1, 1)), "none")
        self.assertEqual(self.assert_settled(closed(box(1, 1))), "point")
        self.assertEqual(self.assert_settled(closed(box(1, 0))), "none")
        self.assertEqual(self.assert_settled([(X0, 0), (Y0, 0), (Z0, 0), ((1, 1, 1, 0), 0)]), "point")
        self.assertEqual(self.assert_settled([(X0, 0), (Y0, 0), (Z0, 0), ((1, 1, 1, -1), 0)]), "none")
        self.assertEqual(self.assert_settled([(X0, 1), (Y0, 1), ((1, 1, 0, 0), -1)]), "none")
        self.assertEqual(self.assert_settled([(X0, 2), (Y0, 2), ((1, 1, 0, 0), -2)]), "point")
        self.assertEqual(self.assert_settled([(X0, 2), (Y0, 2), ((1, 1, 0, 0), -2), ((1, -1, 0, 0), 1)]), "none")
        self.assertEqual(self.assert_settled([(plane_at(2, 1), 0), (plane_at(2, 2), 0)]), "none")

    def test_a_thin_system_of_great_integers(self):
        thin = [((BIG, 1, 0, 0), 1), ((BIG - 1, 1, 0, 0), -1), ((0, 1, 0, BIG), 1), ((0, 0, BIG, -1), 0)]
        self.assertEqual(self.assert_settled(thin), "point")
        self.assertEqual(self.assert_settled(thin + [(X0, -2)]), "none")

    def test_some_systems_of_all_needs(self):
        chooser = random.Random(1)
        kinds = {"point": 0, "none": 0}
        for count in range(1, 14):
            for _ in range(60):
                high = chooser.choice((1, 2, 5, BIG))
                kinds[self.assert_settled(some_conditions(chooser, count, high))] += 1
        self.assertGreater(min(kinds.values()), 200)

    def test_40_conditions(self):
        chooser = random.Random(2)
        kinds = {"point": 0, "none": 0}
        for _ in range(40):
            kinds[self.assert_settled(some_conditions(chooser, 40, chooser.choice((2, 9, BIG)), (-2, -1, 1, 2)))] += 1
        self.assertGreater(min(kinds.values()), 5)

    def test_40_equal_and_opposite_conditions(self):
        for needs in itertools.product(NEEDS, NEEDS):
            conditions = [((1, 2, 3, 4), needs[k % 2]) for k in range(40)]
            wanted = "point" if any(holds_here(conditions, point(k, 0, 0)) for k in range(-5, -2)) else "none"
            self.assertEqual(self.assert_settled(conditions), wanted)
        self.assertEqual(self.assert_settled(box(0, 1) * 6 + closed(box(0, 1))[:4]), "point")
        self.assertEqual(self.assert_settled((box(0, 1) + [(X0, -2)]) * 5), "none")

    def test_40_planes_around_a_point(self):
        normals = [
            normal for normal in itertools.product((-2, -1, 0, 1, 2), repeat=3)
            if math.gcd(*normal) == 1 and next(k for k in normal if k) > 0][:20]
        around = [(normal + (3,), 1) for normal in normals] + [(normal + (-3,), -1) for normal in normals]
        self.assertEqual(len(around), 40)
        self.assertEqual(self.assert_settled(around), "point")
        self.assertEqual(self.assert_settled([(plane, -need) for plane, need in around]), "none")


class TestDimension(SystemTest):

    def test_known_dimensions(self):
        for conditions, wanted in (
                ([], 3), ([(X0, 1)], 3), (box(0, 1), 3), (closed(box(0, 1)), 3), ([(X0, 0)], 2),
                ([(X0, 2), (X0, -2)], 2), ([(X0, 0), (X0, 0)], 2), ([(X0, 0), (Y0, 0)], 1),
                ([(X0, 2), (X0, -2), (Y0, 0), (Z0, 1)], 1), ([(X0, 0), (Y0, 0), ((1, 1, 0, 0), 0)], 1),
                ([(X0, 0), (Y0, 0), (Z0, 0)], 0), (closed(box(1, 1)), 0), (box(1, 1), -1), ([(X0, 0), (X0, 1)], -1),
                ([(X0, 0), (plane_at(0, 1), 0)], -1), ([(X0, 2), (Y0, 2), ((1, 1, 0, 0), -2)], 1),
                ([(X0, 2), (Y0, 2), (Z0, 2), ((1, 1, 1, 0), -2)], 0), ([(X0, 2), (Y0, 2), ((1, 1, 0, -1), -2)], 3),
                (closed(box(0, 1)) + [((1, 1, 1, -3), 2)], 0), (closed(box(0, 1)) + [((1, 1, 0, -2), 2)], 1),
                (closed(box(0, 1)) + [((1, 0, 0, -1), 2)], 2), (closed(box(0, 1)) + [((1, 1, 1, -2), 2)], 3),
                (box(0, 1) + [((1, 1, 1, -3), 2)], -1), ([(X0, 2), ((1, 1, 0, 0), -2), ((1, -1, 0, 0), -2)], 1)):
            for order in (conditions, conditions[::-1]):
                self.assert_same(dimension(order), wanted, conditions)

    def test_equal_conditions_change_nothing(self):
        for conditions in ([(X0, 2), (X0, -2)], [(X0, 0), (Y0, 1)], closed(box(1, 1)), box(0, 1)):
            self.assertEqual(dimension(conditions * 5), dimension(conditions))

    def test_faces_edges_and_corners_of_closed_boxes(self):
        """Two closed boxes that touch have a common part of the dimension that is known."""
        for shift, wanted in (((1, 0, 0), 2), ((1, 1, 0), 1), ((1, 1, 1), 0), ((2, 0, 0), -1), ((0, 0, 0), 3)):
            other = [(plane_at(axis, shift[axis]), 2) for axis in range(3)]
            other += [(plane_at(axis, shift[axis] + 1), -2) for axis in range(3)]
            self.assert_same(dimension(closed(box(0, 1)) + other), wanted)

    def test_against_the_answers_for_made_up_flats(self):
        """A flat of a known dimension, told by inequalities, with strict conditions around a point of it."""
        chooser = random.Random(4)
        for _ in range(150):
            place = point(*[chooser.randint(-3, 3) for _ in range(3)])
            flats = [some_plane(chooser, 3) for _ in range(chooser.randint(0, 3))]
            flats = [make_plane(a, b, c, -sum(k * p[0] for k, p in zip((a, b, c), place))) for a, b, c, d in flats]
            conditions = []
            for plane in flats:
                conditions += chooser.choice(([(plane, 0)], [(plane, 2), (plane, -2)]))
            for _ in range(3):
                plane = some_plane(chooser, 3)
                side = side_of(plane, place)
                if side != 0:
                    conditions.append((plane, chooser.choice((side, 2 * side))))
            chooser.shuffle(conditions)
            rows = [list(plane[:3]) for plane in flats]
            self.assert_same(dimension(conditions), 3 - rank(rows))


def rank(rows):
    """The rank of integer rows, by elimination with fractions."""
    rows = [[Fraction(x) for x in row] for row in rows]
    found = 0
    for column in range(3):
        pivot = next((row for row in rows[found:] if row[column]), None)
        if pivot is not None:
            rows.remove(pivot)
            rows = [
                [x - y * row[column] / pivot[column] for x, y in zip(row, pivot)] if k >= found else row
                for k, row in enumerate(rows)]
            rows.insert(found, pivot)
            found += 1
    return found


class TestPairTables(SystemTest):

    def assert_paired(self, first, second):
        answer = pair_table(first, second)
        pairs = [(i, j) for i in range(len(first)) for j in range(len(second)) if has_point(first[i] + second[j])]
        if pairs:
            self.assertEqual(len(answer), 4)
            self.assert_same(answer[:3], ("point",) + pairs[0])
            self.assertTrue(holds_here(first[pairs[0][0]] + second[pairs[0][1]], answer[3]))
        else:
            kind, table = answer
            self.assertEqual((kind, len(table)), ("none", len(first)))
            for one, row in zip(first, table):
                self.assertEqual(len(row), len(second))
                for other, entry in zip(second, row):
                    self.assertTrue(refutes(one + other, entry))
            self.assertIs(is_pair_table(first, second, table), True)
            found = lists_in(table)
            self.assertEqual(len({id(member) for member in found}), len(found))
        return answer[0]

    def test_empty_lists(self):
        self.assert_same(pair_table([], []), ("none", []))
        self.assert_same(pair_table([], [[]]), ("none", []))
        self.assert_same(pair_table([[], []], []), ("none", [[], []]))
        self.assertIs(is_pair_table([], [[]], []), True)
        self.assertIs(is_pair_table([[], []], [], [[], []]), True)
        self.assertIs(is_pair_table([[], []], [], []), False)
        self.assertIs(is_pair_table([[], []], [], [[], [], []]), False)
        self.assertIs(is_pair_table([], [], [[]]), False)
        answer = pair_table([[], []], [[]])
        self.assert_same(answer[:3], ("point", 0, 0))

    def test_the_first_pair_is_told(self):
        left, right, middle = [(X0, -1)], [(plane_at(0, 5), 1)], [(X0, 1), (plane_at(0, 9), -1)]
        self.assertEqual(self.assert_paired([left, right], [middle, right]), "point")
        self.assert_same(pair_table([left, right], [middle, right])[1:3], (1, 0))
        self.assert_same(pair_table([left, middle], [right, middle])[1:3], (1, 0))
        self.assert_same(pair_table([right], [left, middle])[1:3], (0, 1))
        self.assertEqual(self.assert_paired([left], [middle, right]), "none")
        self.assertEqual(self.assert_paired([left, left], [middle, middle]), "none")

    def test_some_lists(self):
        chooser = random.Random(6)
        kinds = {"point": 0, "none": 0}
        for _ in range(80):
            first = [some_conditions(chooser, chooser.randint(2, 9), 3) for _ in range(chooser.randint(0, 3))]
            second = [some_conditions(chooser, chooser.randint(2, 9), 3) for _ in range(chooser.randint(0, 3))]
            kinds[self.assert_paired(first, second)] += 1
        self.assertGreater(min(kinds.values()), 10)

    def test_is_pair_table(self):
        left, right = [(X0, -1)], [(plane_at(0, 5), 1)]
        entry = [(1, 1), (1, 1)]
        self.assertIs(is_pair_table([left, left], [right], [[entry], [entry]]), True)
        for value in (
                [[entry]], [[entry], []], [[entry], [entry, entry]], [[entry], [entry], [entry]], ([entry], [entry]),
                [(entry,), (entry,)], [[entry], [tuple(entry)]], [[entry], [[(1, 1), (2, 1)]]], [[entry], None], [], 1,
                [[entry], [[(-1, 1), (-1, 1)]]], [[entry], [[(1, 1)]]], [entry, entry], [[entry], [[1, 1]]]):
            self.assertIs(is_pair_table([left, left], [right], value), False, value)

    def test_any_plain_value(self):
        left, right = [(X0, -1)], [(plane_at(0, 5), 1)]
        self.assert_takes_plain_values(is_pair_table, [left], [right])
        self.assert_takes_plain_values(is_pair_table, [], [right], right=[[]])
        self.assert_takes_plain_values(is_pair_table, [left], [], right=[[[]]])


class TestSignRows(SystemTest):

    def assert_rows(self, planes):
        """Exactly those sign rows for which there is a point, ascending."""
        before = list(planes)
        rows = sign_rows(planes)
        self.assertEqual(planes, before)
        wanted = [
            signs for signs in itertools.product((-1, 1), repeat=len(planes))
            if self.assert_settled(list(zip(planes, signs))) == "point"]
        self.assert_same(rows, wanted)
        return rows

    def test_few_planes(self):
        self.assert_same(sign_rows([]), [()])
        self.assert_same(sign_rows([Z0]), [(-1,), (1,)])
        self.assert_same(sign_rows([Z0, (0, 0, 1, -1)]), [(-1, -1), (1, -1), (1, 1)])
        self.assert_same(sign_rows([(0, 0, 1, -1), Z0]), [(-1, -1), (-1, 1), (1, 1)])
        self.assert_same(sign_rows([X0, Y0]), [(-1, -1), (-1, 1), (1, -1), (1, 1)])

    def test_some_lists(self):
        chooser = random.Random(8)
        for count in range(2, 7):
            for high in (1, 2, 7, BIG):
                planes = []
                while len(planes) < count:
                    plane = some_plane(chooser, high)
                    if plane not in planes:
                        planes.append(plane)
                self.assert_rows(planes)

    def test_special_lists(self):
        line = [X0, (1, 1, 0, 0), (2, -1, 0, 0), Y0]
        self.assertEqual(len(self.assert_rows(line)), 8)
        self.assertEqual(len(self.assert_rows([X0, plane_at(0, 1), (3, 0, 0, -1), Y0, plane_at(1, 2)])), 12)
        self.assertEqual(len(self.assert_rows([X0, Y0, Z0, (1, 1, 1, 0), (1, -1, 0, 0)])), 20)

    def test_12_parallel_planes(self):
        planes = [plane_at(2, 12 - k) for k in range(12)]
        wanted = [tuple(1 if 12 - k <= height else -1 for k in range(12)) for height in range(13)]
        self.assert_same(sign_rows(planes), sorted(wanted))

    def test_12_planes_through_a_line(self):
        self.assertEqual(len(sign_rows([(1, k, 0, 0) for k in range(-5, 7)])), 24)

    def test_12_planes_through_a_point(self):
        planes = [(1, k, k * k, 0) for k in range(6, -6, -1)]
        rows = sign_rows(planes)
        self.assertEqual(len(rows), 2 * (1 + 11 + 55))
        self.assertEqual(sorted(tuple(-sign for sign in row) for row in rows), rows)

    def test_12_planes_in_general_position(self):
        planes = [(1, k, k * k, k ** 3) for k in (3, -2, 5, 0, -4, 1, 6, -1, 2, -3, 4, -5)]
        rows = sign_rows(planes)
        self.assertEqual(len(rows), 299)
        self.assertEqual(sorted(set(rows)), rows)
        for row in rows:
            self.assertEqual(self.assert_settled(list(zip(planes, row))), "point")

    def test_12_planes_of_great_integers(self):
        planes = [(1, k * BIG, k * k * BIG, k ** 3 * BIG + 1) for k in (3, -2, 5, 0, -4, 1, 6, -1, 2, -3, 4, -5)]
        for row in sign_rows(planes):
            self.assertEqual(self.assert_settled(list(zip(planes, row))), "point")


if __name__ == "__main__":
    unittest.main()
