"""Point 46, with point 45 as far as its sections are spoken of, and point 66 for slices."""

import inspect
import unittest

from everypoint.keeping import keep, kept_tree, move_tree, outside_tree
from everypoint.moves import make_move, mirror_axis, shift_by
from everypoint.planes import is_plane, side_of
from everypoint.polygons import cell_corners
from everypoint.ratios import add, compare, divide, middle, multiply, negate, ratio, sort_ratios, subtract
from everypoint.shapes import box, octahedron, tetrahedron, wedge
from everypoint.slices import area_at, level_plane, slice_volume, slices
from everypoint.trees import in_cells
from everypoint.vectors import axis_vector, scaled
from everypoint.volumes import section, section_area, volume_by_cells, volume_by_faces
from samples import (
    BOUNDED, CORNERED, CUBE, CUBES_TREE, FULL, GEM, HOUSE, NOT_BOUNDED, RING, SHELL, SPIKE, TWO_APART, TWO_IN_A_CORNER,
    TWO_IN_A_FACE, TWO_IN_AN_EDGE, row_of, some_bodies)
from support import BIG, SpaceTest, kinds_of, lists_in, plane_at, point

# What takes (x, y, z) to (y, z, x): the part at axis 1 is then the one at axis 0, and so on.
CYCLE = make_move([[0, 1, 0], [0, 0, 1], [1, 0, 0]], [0, 0, 0])


def whole(*triple):
    return tuple((part, 1) if isinstance(part, int) else part for part in triple)


def told(low, high, *triple):
    return whole(low, high) + (whole(*triple),)


def value_of(triple, t):
    c0, c1, c2 = triple
    return add(c0, add(multiply(c1, t), multiply(c2, multiply(t, t))))


def heights_of(tree, axis):
    return sort_ratios([corner[axis] for cell in in_cells(tree) for corner in cell_corners(cell)])


def volume_of_slices(listed):
    """The sum of point 46 as it stands."""
    total = (0, 1)
    for l, h, (c0, c1, c2) in listed:
        total = add(total, multiply(c0, subtract(h, l)))
        total = add(total, divide(multiply(c1, subtract(multiply(h, h), multiply(l, l))), (2, 1)))
        cubes = subtract(multiply(h, multiply(h, h)), multiply(l, multiply(l, l)))
        total = add(total, divide(multiply(c2, cubes), (3, 1)))
    return total


class TestLevelPlanes(SpaceTest):

    def test_known_planes(self):
        for axis, t, plane in (
                (0, (3, 1), (1, 0, 0, -3)), (1, (0, 1), (0, 1, 0, 0)), (2, (-1, 2), (0, 0, 2, 1)), (2, (7, 3), (0, 0, 3, -7)),
                (1, (BIG, 2), (0, 2, 0, -BIG)), (0, (-4, 5), (5, 0, 0, 4))):
            self.assert_same(level_plane(axis, t), plane)
            self.assertIs(is_plane(level_plane(axis, t)), True)

    def test_its_points(self):
        for axis in range(3):
            for t in ((0, 1), (5, 3), (-2, 1)):
                plane = level_plane(axis, t)
                place = tuple(t if k == axis else (7 + k, 2) for k in range(3))
                self.assertEqual(side_of(plane, place), 0)
                above = tuple(add(part, (1, 9)) if k == axis else part for k, part in enumerate(place))
                self.assertEqual(side_of(plane, above), 1)


class TestKnownSlices(SpaceTest):

    def test_empty(self):
        for axis in range(3):
            self.assert_same(slices("out", axis=axis), [])
        self.assert_same(slices(kept_tree(("take", CUBE, CUBE))), [])

    def test_one_box(self):
        tree = kept_tree(box(point((1, 2), -1, 0), point(2, 3, (7, 3))))
        self.assert_same(slices(tree, axis=0), [told((1, 2), 2, (28, 3), 0, 0)])
        self.assert_same(slices(tree, axis=1), [told(-1, 3, (7, 2), 0, 0)])
        self.assert_same(slices(tree, axis=2), [told(0, (7, 3), 6, 0, 0)])
        self.assert_same(slices(tree), slices(tree, axis=2))

    def test_a_gap(self):
        tree = kept_tree(TWO_APART)
        self.assert_same(slices(tree, axis=0), [told(0, 1, 1, 0, 0), told(1, 3, 0, 0, 0), told(3, 4, 2, 0, 0)])
        self.assert_same(slices(tree, axis=1), [told(0, 1, 2, 0, 0), told(1, 2, 1, 0, 0)])
        self.assert_same(slices(tree, axis=2), [told(0, 1, 3, 0, 0)])
        # Three layers of equal size with gaps of unlike lengths: the gaps stand as slices of their own.
        layers = keep(row_of(0, [row_of(1, [row_of(2, ["in", "out", "in", "out", "out", "in"])])]))
        self.assert_same(slices(layers, axis=2), [
            told(0, 1, 1, 0, 0), told(1, 2, 0, 0, 0), told(2, 3, 1, 0, 0), told(3, 5, 0, 0, 0), told(5, 6, 1, 0, 0)])

    def test_two_boxes_that_touch_in_a_corner(self):
        tree = kept_tree(TWO_IN_A_CORNER)
        for axis in range(3):
            self.assert_same(slices(tree, axis=axis), [((0, 1), (2, 1), ((1, 1), (0, 1), (0, 1)))])
            # The height 1 lies within the slice, and the section there is empty.
            self.assertEqual(section(tree, level_plane(axis, (1, 1))), [])
            self.assert_same(section_area(tree, level_plane(axis, (1, 1)), axis=axis), (0, 1))
            self.assert_same(area_at(slices(tree, axis=axis), (1, 1)), (1, 1))
        self.assert_same(slice_volume(slices(tree)), (2, 1))

    def test_boxes_side_by_side(self):
        self.assert_same(slices(kept_tree(TWO_IN_A_FACE), axis=0), [told(0, 2, 1, 0, 0)])
        self.assert_same(slices(kept_tree(TWO_IN_AN_EDGE), axis=1), [told(0, 2, 1, 0, 0)])
        self.assert_same(slices(kept_tree(TWO_IN_AN_EDGE), axis=2), [told(0, 1, 2, 0, 0)])
        self.assert_same(
            slices(kept_tree(SHELL), axis=1), [told(0, 1, 9, 0, 0), told(1, 2, 8, 0, 0), told(2, 3, 9, 0, 0)])
        self.assert_same(slices(kept_tree(CORNERED), axis=0), [told(0, 1, 4, 0, 0), told(1, 2, 3, 0, 0)])
        self.assert_same(slices(kept_tree(RING), axis=1), [told(0, 1, 3, 0, 0), told(1, 2, 2, 0, 0), told(2, 3, 3, 0, 0)])

    def test_slanted_bodies(self):
        self.assert_same(slices(kept_tree(HOUSE)), [told(0, 1, 1, 0, 0), told(1, 2, 2, -1, 0)])
        self.assert_same(slices(kept_tree(HOUSE), axis=0), [told(0, 1, 2, -1, 0)])
        roof = kept_tree(wedge(point(0, 0, 0), point(2, 3, 4)))
        self.assert_same(slices(roof, axis=2), [told(0, 4, 6, (-3, 2), 0)])
        self.assert_same(slices(roof, axis=0), [told(0, 2, 12, -6, 0)])
        self.assert_same(slices(roof, axis=1), [told(0, 3, 4, 0, 0)])
        corner = kept_tree(tetrahedron(point(0, 0, 0), point(1, 0, 0), point(0, 1, 0), point(0, 0, 1)))
        for axis in range(3):
            self.assert_same(slices(corner, axis=axis), [told(0, 1, (1, 2), -1, (1, 2))])
        gem = kept_tree(octahedron(point(0, 5, 0), (1, 1)))
        self.assert_same(slices(gem, axis=0), [told(-1, 0, 2, 4, 2), told(0, 1, 2, -4, 2)])
        self.assert_same(slices(gem, axis=1), [told(4, 5, 32, -16, 2), told(5, 6, 72, -24, 2)])
        self.assert_same(slices(kept_tree(SPIKE)), [told(0, 4, 3, (-3, 2), (3, 16))])

    def test_large_numbers(self):
        tree = kept_tree(box(point(-BIG, 0, (1, BIG)), point(BIG, (1, BIG), BIG)))
        for axis in range(3):
            listed = slices(tree, axis=axis)
            self.assertEqual(len(listed), 1)
            self.assert_same(slice_volume(listed), volume_by_cells(tree))


class TestFacts(SpaceTest):

    def made(self):
        trees = [kept_tree(expression) for expression in BOUNDED.values()] + [CUBES_TREE, "out"]
        return trees + [tree for expression, tree in some_bodies(46, 14)]

    def test_the_areas_of_the_sections(self):
        for tree in self.made():
            for axis in range(3):
                listed = slices(tree, axis=axis)
                heights = heights_of(tree, axis)
                for low, high in zip(heights, heights[1:]):
                    around = [triple for l, h, triple in listed if compare(l, low) <= 0 and compare(high, h) <= 0]
                    self.assertEqual(len(around), 1)
                    for part in ((1, 7), (1, 2), (5, 6)):
                        t = add(low, multiply(part, subtract(high, low)))
                        area = section_area(tree, level_plane(axis, t), axis=axis)
                        self.assert_same(value_of(around[0], t), area)
                        self.assert_same(area_at(listed, t), area)

    def test_the_form_of_the_list(self):
        joined = 0
        for tree in self.made():
            for axis in range(3):
                listed = slices(tree, axis=axis)
                heights = heights_of(tree, axis)
                self.assertIs(type(listed), list)
                self.assertEqual(bool(listed), tree != "out")
                if listed:
                    self.assert_same((listed[0][0], listed[-1][1]), (heights[0], heights[-1]))
                    self.assertLess(len(listed), len(heights))
                    joined += len(listed) < len(heights) - 1
                for slice_told in listed:
                    self.assertEqual([type(slice_told), len(slice_told), type(slice_told[2]), len(slice_told[2])], [tuple, 3, tuple, 3])
                    self.assertLess(compare(slice_told[0], slice_told[1]), 0)
                for before, later in zip(listed, listed[1:]):
                    self.assert_same(before[1], later[0])
                    self.assertNotEqual(before[2], later[2])
        self.assertGreater(joined, 5)

    def test_the_sum_is_the_volume(self):
        for tree in self.made():
            for axis in range(3):
                listed = slices(tree, axis=axis)
                self.assert_same(slice_volume(listed), volume_by_cells(tree))
                self.assert_same(slice_volume(listed), volume_by_faces(tree))
                self.assert_same(slice_volume(listed), volume_of_slices(listed))

    def test_they_depend_on_the_solid_alone(self):
        for tree in self.made()[:20]:
            turned = move_tree(CYCLE, tree)
            for axis in range(3):
                self.assert_same(slices(turned, axis=axis), slices(tree, axis=(axis + 1) % 3))
        # The same solid, put together in another way.
        parts = ("join", ("meet", SPIKE, ("half", (1, 1, 0, -1), 1)), ("meet", SPIKE, ("half", (1, 1, 0, -1), -1)))
        self.assert_same(slices(kept_tree(parts)), slices(kept_tree(SPIKE)))

    def test_moved_along_the_axis(self):
        for expression in (GEM, HOUSE, RING):
            tree = kept_tree(expression)
            for axis in range(3):
                listed = slices(tree, axis=axis)
                mirrored = slices(move_tree(mirror_axis(axis), tree), axis=axis)
                self.assert_same(mirrored, [
                    (negate(high), negate(low), (c0, negate(c1), c2)) for low, high, (c0, c1, c2) in reversed(listed)])
                lifted = slices(move_tree(shift_by(scaled((5, 2), axis_vector(axis))), tree), axis=axis)
                self.assertEqual([t[:2] for t in lifted], [(add(l, (5, 2)), add(h, (5, 2))) for l, h, _ in listed])
                for (low, high, _), (start, end, _) in zip(listed, lifted):
                    self.assert_same(area_at(lifted, middle(start, end)), area_at(listed, middle(low, high)))


class TestSliceVolume(SpaceTest):

    def test_no_slices(self):
        self.assert_same(slice_volume([]), (0, 1))

    def test_some_of_the_slices(self):
        listed = slices(kept_tree(TWO_APART), axis=0)
        self.assert_same(slice_volume(listed), (3, 1))
        self.assert_same(slice_volume(listed[:1]), (1, 1))
        self.assert_same(slice_volume(listed[1:2]), (0, 1))
        self.assert_same(slice_volume(listed[2:]), (2, 1))
        self.assert_same(slice_volume([listed[2], listed[0]]), (3, 1))
        gem = slices(kept_tree(octahedron(point(0, 0, 5), (1, 1))))
        self.assert_same(slice_volume(gem[:1]), (2, 3))
        self.assert_same(slice_volume(gem[1:]), (2, 3))

    def test_each_part_of_the_triple(self):
        self.assert_same(slice_volume([told(1, 3, 5, 0, 0)]), (10, 1))
        self.assert_same(slice_volume([told(1, 3, 0, 5, 0)]), (20, 1))
        self.assert_same(slice_volume([told(1, 3, 0, 0, 5)]), (130, 3))
        self.assert_same(slice_volume([told((-1, 2), (1, 3), 1, (1, 2), (2, 5))]), volume_of_slices(
            [told((-1, 2), (1, 3), 1, (1, 2), (2, 5))]))

    def test_the_list_stays(self):
        listed = slices(kept_tree(TWO_APART), axis=0)
        expected = kinds_of(listed)
        slice_volume(listed)
        area_at(listed, (1, 2))
        self.assertEqual(kinds_of(listed), expected)


class TestAreaAt(SpaceTest):

    def test_within_and_outside(self):
        listed = slices(kept_tree(TWO_APART), axis=0)
        for t, area in (
                ((1, 2), (1, 1)), ((1, 100), (1, 1)), ((2, 1), (0, 1)), ((7, 2), (2, 1)), ((-1, 100), (0, 1)), ((-9, 1), (0, 1)),
                ((401, 100), (0, 1)), ((99, 1), (0, 1)), ((0, 1), None), ((1, 1), None), ((3, 1), None), ((4, 1), None)):
            self.assert_same(area_at(listed, t), area, t)

    def test_no_slices(self):
        for t in ((0, 1), (-3, 2), (BIG, 1)):
            self.assert_same(area_at([], t), (0, 1))

    def test_a_slanted_body(self):
        listed = slices(kept_tree(octahedron(point(0, 5, 0), (1, 1))), axis=1)
        for t, area in (((9, 2), (1, 2)), ((17, 4), (1, 8)), ((11, 2), (1, 2)), ((23, 4), (1, 8)), ((5, 1), None), ((4, 1), None),
                        ((6, 1), None), ((3, 1), (0, 1)), ((7, 1), (0, 1)), ((14, 3), (8, 9))):
            self.assert_same(area_at(listed, t), area, t)

    def test_a_height_within_a_joined_slice(self):
        tree = kept_tree(TWO_IN_AN_EDGE)
        self.assert_same(area_at(slices(tree, axis=0), (1, 1)), (1, 1))
        self.assert_same(section_area(tree, plane_at(0, 1), axis=0), (0, 1))
        # Half of each section changes its place at z = 1.
        chequered = keep(row_of(1, [row_of(2, ["in", "out"]), row_of(2, ["out", "in"])]))
        columns = keep(row_of(0, [chequered]))
        self.assert_same(slices(columns, axis=2), [told(0, 2, 1, 0, 0)])
        self.assert_same(area_at(slices(columns, axis=2), (1, 1)), (1, 1))
        self.assert_same(section_area(columns, plane_at(2, 1)), (0, 1))


class TestRefusals(SpaceTest):

    def test_unbounded(self):
        trees = [kept_tree(expression) for expression in NOT_BOUNDED.values()]
        trees += [outside_tree(kept_tree(CUBE)), outside_tree(kept_tree(TWO_APART)), "in", kept_tree(FULL)]
        for tree in trees:
            for axis in range(3):
                self.assert_error("Unbounded", lambda: slices(tree, axis=axis))
            self.assert_error("Unbounded", slices, tree)

    def test_the_axis_is_told_by_its_name(self):
        self.assertEqual(str(inspect.signature(slices)), "(tree, *, axis=2)")
        with self.assertRaises(TypeError):
            slices(kept_tree(CUBE), 1)

    def test_lists_are_new(self):
        tree = kept_tree(TWO_APART)
        expected = kinds_of(slices(tree, axis=0))
        found = slices(tree, axis=0)
        self.assertEqual(len(lists_in(found)), 1)
        found.clear()
        self.assertEqual(kinds_of(slices(tree, axis=0)), expected)

    def test_every_height_is_a_ratio(self):
        for low, high, triple in slices(kept_tree(SPIKE), axis=1):
            for part in (low, high) + triple:
                self.assert_same(part, ratio(*part))


if __name__ == "__main__":
    unittest.main()
