"""Points 49 to 52."""

import inspect
import random
import unittest

from everypoint.faces import faces, faces_at, outward_normal
from everypoint.keeping import kept_tree, outside_tree
from everypoint.pictures import (
    camera_ray, compare_pictures, is_camera, is_picture, level, parse_picture, picture, picture_text, pixel)
from everypoint.ratios import compare, multiply, sign
from everypoint.rays import first_hit, ray_point
from everypoint.shapes import wedge
from everypoint.vectors import dot, scaled
from samples import (
    BOUNDED, CUBE, CUBES_TREE, GEM, HOUSE, NOT_BOUNDED, RING, SHELL, TWO_IN_A_CORNER, TWO_IN_AN_EDGE, some_bodies, some_point)
from support import BIG, SpaceTest, kinds_of, lists_in, point

ZERO = point(0, 0, 0)
HALF = (1, 2)
CUBE_TREE = kept_tree(CUBE)
# Looks down on the square from (0, 0) to (3, 3), a quarter of 1 from each pixel's ray to the next one.
DOWN = ("straight", point(0, 0, -1), point((1, 8), (23, 8), 9), point((1, 4), 0, 0), point(0, (-1, 4), 0))
PINHOLE = ("pinhole", point(HALF, HALF, 4), point((-11, 12), (11, 12), -3), point((1, 6), 0, 0), point(0, (-1, 6), 0))


def hit_pixel(tree, camera, column, row, light, steps):
    """Point 51, from the first hit and the faces there."""
    told = camera_ray(camera, column, row)
    hit = first_hit(tree, told)
    if hit is None:
        return 0
    if hit[1] == "in":
        return steps + 2
    light = told[1] if light is None else light
    shown = [0]
    for face in faces_at(faces(tree), ray_point(told, hit[0])):
        normal = outward_normal(face)
        if sign(dot(normal, light)) < 0:
            shown.append(level(normal, light, steps))
    return 1 + max(shown)


class TestCameras(SpaceTest):

    def test_is_camera(self):
        self.assert_takes_plain_values(is_camera)
        for value, wanted in (
                (DOWN, True), (PINHOLE, True), (("pinhole", ZERO, ZERO, ZERO, ZERO), True), (("straight", ZERO, ZERO, ZERO, ZERO), True),
                (("straight", ZERO, point(1, 0, 0), ZERO, ZERO), True), (list(DOWN), False), (DOWN[:4], False), (DOWN + (ZERO,), False),
                (("Straight",) + DOWN[1:], False), (("",) + DOWN[1:], False), ((["straight"],) + DOWN[1:], False), (({},) + DOWN[1:], False),
                (DOWN[1:] + ("straight",), False), (("pinhole",) + ((1, 2, 3),) * 4, False), (("pinhole",) + (None,) * 4, False),
                (DOWN[:4] + (list(ZERO),), False), (DOWN[:4] + (((True, 1), (0, 1), (0, 1)),), False),
                (DOWN[:4] + (((2, 2), (0, 1), (0, 1)),), False), (("straight", None) + DOWN[2:], False)):
            self.assertIs(is_camera(value), wanted, value)

    def test_the_rays_of_pixels(self):
        vectors = (point(1, 2, 3), point(4, 5, 6), point(10, 0, HALF), point(0, 100, -1))
        place = point(24, 305, 4)
        self.assert_same(camera_ray(("pinhole",) + vectors, 2, 3), (vectors[0], place))
        self.assert_same(camera_ray(("straight",) + vectors, 2, 3), (place, vectors[0]))
        self.assert_same(camera_ray(("pinhole",) + vectors, 0, 0), (vectors[0], vectors[1]))
        self.assert_same(camera_ray(("straight",) + vectors, 0, 0), (vectors[1], vectors[0]))
        self.assert_same(camera_ray(("straight",) + vectors, 1, 0)[0], point(14, 5, (13, 2)))
        self.assert_same(camera_ray(("straight",) + vectors, 0, 1)[0], point(4, 105, 5))
        self.assert_same(camera_ray(("straight",) + vectors, BIG, 0)[0][0], (4 + 10 * BIG, 1))
        self.assert_same(camera_ray(camera=DOWN, column=100, row=50), (point((201, 8), (-77, 8), 9), point(0, 0, -1)))

    def test_zero_directions(self):
        self.assert_error("NoDirection", camera_ray, ("straight", ZERO) + DOWN[2:], 0, 0)
        self.assert_error("NoDirection", camera_ray, ("straight", ZERO) + DOWN[2:], 5, 7)
        pinhole = ("pinhole", point(1, 2, 3), point(-2, -3, 0), point(1, 0, 0), point(0, 1, 0))
        self.assert_error("NoDirection", camera_ray, pinhole, 2, 3)
        for column, row in ((0, 0), (2, 2), (3, 3), (2, 4), (12, 11)):
            self.assert_same(camera_ray(pinhole, column, row), (pinhole[1], point(column - 2, row - 3, 0)))
        # The eye, or the place of a straight camera, may be the origin; its right and down may be zero.
        self.assert_same(camera_ray(("pinhole", ZERO, point(0, 0, 1), ZERO, ZERO), 3, 4), (ZERO, point(0, 0, 1)))
        self.assert_same(camera_ray(("straight", point(0, 0, 1), ZERO, ZERO, ZERO), 3, 4), (ZERO, point(0, 0, 1)))


class TestLevels(SpaceTest):

    def test_exactly_at_the_bound(self):
        # The part of 4 in the length 5: at 5 steps it is exactly 4, and at 10 it would be 8.
        for steps, wanted in ((1, 0), (2, 1), (3, 2), (4, 3), (5, 4), (6, 4), (7, 5)):
            self.assert_same(level(point(3, 4, 0), point(0, 1, 0), steps), wanted)
            self.assert_same(level(point(0, -1, 0), point(3, 4, 0), steps), wanted)
        for steps, wanted in ((1, 0), (2, 1), (3, 1), (4, 2), (5, 3), (6, 3), (7, 4)):
            self.assert_same(level(point(3, 4, 0), point(7, 0, 0), steps), wanted)
        # Half of the length, exactly.
        for steps, wanted in ((1, 0), (2, 1), (3, 1), (4, 2), (5, 2), (6, 3), (7, 3)):
            self.assert_same(level(point(1, 1, 0), point(0, 1, 1), steps), wanted)
        # A third of the length, exactly, and two thirds.
        for steps, wanted in ((1, 0), (2, 0), (3, 1), (4, 1), (5, 1), (6, 2), (7, 2)):
            self.assert_same(level(point(1, 2, 2), point(1, 0, 0), steps), wanted)
        for steps, wanted in ((1, 0), (2, 1), (3, 2), (4, 2), (5, 3), (6, 4), (7, 4)):
            self.assert_same(level(point(1, 2, 2), point(0, 0, 1), steps), wanted)

    def test_the_greatest_and_the_least(self):
        for steps in range(1, 8):
            self.assert_same(level(point(1, 2, 3), point(1, 2, 3), steps), steps)
            self.assert_same(level(point(1, 2, 3), point((-1, 5), (-2, 5), (-3, 5)), steps), steps)
            self.assert_same(level(point(1, 2, 3), point(-2, 1, 0), steps), 0)
            # A little less than the whole length.
            self.assert_same(level(point(1, 2, 3), point(1, 2, (3001, 1000)), steps), steps - 1)
            self.assert_same(level(point(BIG, BIG, 1), point(BIG, BIG, 0), steps), steps - 1)

    def test_lengths_and_signs_have_no_effect(self):
        chooser = random.Random(50)
        for _ in range(60):
            normal, light = some_point(chooser), some_point(chooser)
            if ZERO in (normal, light):
                continue
            for steps in (1, 3, 7):
                wanted = level(normal, light, steps)
                self.assert_same(level(scaled((-3, 7), normal), light, steps), wanted)
                self.assert_same(level(normal, scaled((11, 2), light), steps), wanted)
                self.assert_same(level(light, normal, steps), wanted)
                self.assertIs(type(wanted), int)
                for k in range(steps + 1):
                    fits = compare(
                        multiply((k * k, 1), multiply(dot(normal, normal), dot(light, light))),
                        multiply((steps * steps, 1), multiply(dot(normal, light), dot(normal, light)))) <= 0
                    self.assertIs(fits, k <= wanted)


class TestPixels(SpaceTest):

    def test_no_hit(self):
        for steps in range(1, 8):
            self.assert_same(pixel(CUBE_TREE, DOWN, 11, 0, steps=steps), 0)
            self.assert_same(pixel("out", DOWN, 11, 0, steps=steps, light=point(1, 1, 1)), 0)

    def test_from_inside(self):
        for steps in range(1, 8):
            self.assert_same(pixel("in", DOWN, 1, 2, steps=steps), steps + 2)
            inside = ("pinhole", point(HALF, HALF, HALF), point(0, 0, 1), point(1, 0, 0), point(0, 1, 0))
            self.assert_same(pixel(CUBE_TREE, inside, 1, 2, steps=steps), steps + 2)
            self.assert_same(pixel(CUBE_TREE, inside, 1, 2, steps=steps, light=point(1, 0, 0)), steps + 2)
        # From the frontier inwards the ray begins on a face, whose outward normal looks against it.
        on_top = ("pinhole", point(HALF, HALF, 1), point(0, 0, -1), ZERO, ZERO)
        self.assert_same(pixel(CUBE_TREE, on_top, 0, 0), 8)
        self.assert_same(pixel(CUBE_TREE, on_top, 0, 0, light=point(0, 0, 1)), 1)

    def test_with_the_light_of_the_ray(self):
        for steps in range(1, 8):
            self.assert_same(pixel(CUBE_TREE, DOWN, 0, 11, steps=steps), steps + 1)
        self.assert_same(pixel(CUBE_TREE, DOWN, 0, 11), 8)
        slanted = kept_tree(wedge(point(0, 0, 0), point(3, 3, 4)))
        # The normal of the slope is (4, 0, 3): straight down it shows three fifths of its length.
        for steps, wanted in ((1, 1), (2, 2), (3, 2), (4, 3), (5, 4), (6, 4), (7, 5)):
            self.assert_same(pixel(slanted, DOWN, 0, 11, steps=steps), wanted)
            self.assert_same(pixel(slanted, DOWN, 0, 11, steps=steps, light=point(0, 0, -9)), wanted)

    def test_with_another_light(self):
        for light, wanted in (
                ((0, 0, -1), 8), ((0, 0, 1), 1), ((1, 0, 0), 1), ((3, 0, -4), 6), ((-3, 0, -4), 6), ((4, 0, -3), 5), ((0, 4, 3), 1),
                ((1, 1, (-1, 100)), 1), ((1, 0, -1), 5), ((2, 1, -2), 5)):
            self.assert_same(pixel(CUBE_TREE, DOWN, 0, 11, light=point(*light)), wanted, light)

    def test_the_brightest_of_the_faces_that_meet(self):
        # The ray meets the edge between the faces x = 0 and z = 1.
        edge = ("straight", point(3, 0, -4), point(-3, HALF, 5), ZERO, ZERO)
        self.assert_same(pixel(CUBE_TREE, edge, 0, 0), 1 + 5)
        self.assert_same(pixel(CUBE_TREE, edge, 0, 0, light=point(1, 0, 0)), 8)
        self.assert_same(pixel(CUBE_TREE, edge, 0, 0, light=point(0, 0, -1)), 8)
        self.assert_same(pixel(CUBE_TREE, edge, 0, 0, light=point(-4, 0, -3)), 1 + 4)
        self.assert_same(pixel(CUBE_TREE, edge, 0, 0, light=point(4, 0, 3)), 1 + 5)
        self.assert_same(pixel(CUBE_TREE, edge, 0, 0, light=point(-4, 0, 3)), 1)
        # Where two bodies touch in an edge, faces look to all sides.
        between = ("straight", point(1, -1, 0), point(0, 2, HALF), ZERO, ZERO)
        for light, wanted in (((1, 0, 0), 8), ((-1, 0, 0), 8), ((0, -2, 0), 8), ((0, 0, 1), 1), ((1, 1, 0), 5)):
            self.assert_same(pixel(kept_tree(TWO_IN_AN_EDGE), between, 0, 0, light=point(*light)), wanted)

    def test_by_definition(self):
        chooser = random.Random(51)
        made = [kept_tree(BOUNDED[name]) for name in ("house", "ring", "in an edge", "in a corner", "both")]
        made += [tree for expression, tree in some_bodies(52, 6)]
        seen = set()
        for tree in made + [outside_tree(CUBE_TREE), kept_tree(NOT_BOUNDED["cone"])]:
            for steps in (1, 4, 7):
                camera = ("pinhole", point(1, 1, 5), point(-1, -1, -4), point((1, 4), 0, 0), point(0, (1, 4), 0))
                for light in (None, some_point(chooser)):
                    if light == ZERO:
                        continue
                    column, row = chooser.randint(0, 8), chooser.randint(0, 8)
                    wanted = hit_pixel(tree, camera, column, row, light, steps)
                    self.assert_same(pixel(tree, camera, column, row, light=light, steps=steps), wanted)
                    seen.add(wanted)
        self.assertGreater(len(seen), 4)

    def test_no_direction(self):
        straight = ("straight", ZERO) + DOWN[2:]
        pinhole = ("pinhole", ZERO, point(-1, -1, 0), point(1, 0, 0), point(0, 1, 0))
        for tree in ("out", "in", CUBE_TREE):
            self.assert_error("NoDirection", lambda: pixel(tree, DOWN, 11, 0, light=ZERO))
            self.assert_error("NoDirection", lambda: pixel(tree, straight, 0, 0))
            self.assert_error("NoDirection", lambda: pixel(tree, straight, 0, 0, light=point(0, 0, 1)))
            self.assert_error("NoDirection", lambda: pixel(tree, pinhole, 1, 1))
            self.assertIn(pixel(tree, pinhole, 0, 1), range(10))

    def test_light_and_steps_are_told_by_their_names(self):
        self.assertEqual(str(inspect.signature(pixel)), "(tree, camera, column, row, *, light=None, steps=7)")
        self.assertEqual(str(inspect.signature(picture)), "(tree, camera, width, height, *, light=None, steps=7)")
        for call in (pixel, picture):
            with self.assertRaises(TypeError):
                call(CUBE_TREE, DOWN, 1, 1, None)
            with self.assertRaises(TypeError):
                call(CUBE_TREE, DOWN, 1, 1, None, 7)


class TestPictures(SpaceTest):

    def test_known_pictures(self):
        self.assertEqual(
            picture_text(picture(kept_tree(RING), DOWN, 12, 12)), "\n".join(["8" * 12] * 4 + ["88880000" + "8888"] * 4 + ["8" * 12] * 4))
        self.assertEqual(
            picture_text(picture(kept_tree(TWO_IN_A_CORNER), DOWN, 12, 12)),
            "\n".join(["0" * 12] * 4 + ["0000" + "88880000"] * 4 + ["88880000" + "0000"] * 4))
        self.assertEqual(picture_text(picture(CUBE_TREE, PINHOLE, 12, 12, steps=3)), "\n".join(
            ["0" * 12] * 3 + ["000" + "333333" + "000"] * 6 + ["0" * 12] * 3))

    def test_empty_and_full(self):
        self.assert_same(picture("out", DOWN, 3, 2), [[0, 0, 0], [0, 0, 0]])
        self.assert_same(picture("in", DOWN, 2, 3, steps=4), [[6, 6], [6, 6], [6, 6]])

    def test_each_entry_is_its_pixel(self):
        tree = kept_tree(HOUSE)
        for camera in (DOWN, PINHOLE):
            for light, steps in ((None, 7), (point(2, 1, -3), 5)):
                for width, height in ((1, 1), (12, 1), (1, 12), (4, 3)):
                    found = picture(tree, camera, width, height, light=light, steps=steps)
                    self.assertIs(is_picture(found), True)
                    self.assertEqual((len(found), len(found[0])), (height, width))
                    self.assert_same(found, [
                        [pixel(tree, camera, column, row, light=light, steps=steps) for column in range(width)] for row in range(height)])
        self.assert_same(picture(CUBES_TREE, DOWN, 12, 12)[0][:8], [8] * 8)

    def test_all_names(self):
        tree = kept_tree(GEM)
        self.assert_same(
            picture(steps=2, light=point(0, 1, -1), height=3, width=2, camera=DOWN, tree=tree),
            picture(tree, DOWN, 2, 3, light=point(0, 1, -1), steps=2))

    def test_no_direction(self):
        pinhole = ("pinhole", ZERO, point(-1, -1, 0), point(1, 0, 0), point(0, 1, 0))
        for tree in ("out", "in", CUBE_TREE):
            self.assert_error("NoDirection", picture, tree, pinhole, 2, 2)
            self.assert_error("NoDirection", picture, tree, pinhole, 12, 12)
            self.assert_error("NoDirection", picture, tree, ("straight", ZERO) + DOWN[2:], 1, 1)
            self.assert_error("NoDirection", lambda: picture(tree, DOWN, 1, 1, light=ZERO))
            # The pixel without a direction is not among these.
            self.assertIs(is_picture(picture(tree, pinhole, 1, 2)), True)
            self.assertIs(is_picture(picture(tree, pinhole, 2, 1)), True)

    def test_lists_are_new(self):
        tree = kept_tree(SHELL)
        found = picture(tree, DOWN, 3, 3)
        expected = kinds_of(found)
        lists = lists_in(found)
        self.assertEqual(len({id(member) for member in lists}), 4)
        for member in lists:
            member.append(5)
        self.assertEqual(kinds_of(picture(tree, DOWN, 3, 3)), expected)

    def test_is_picture(self):
        self.assert_takes_plain_values(is_picture)
        for value, wanted in (
                ([[0]], True), ([[9]], True), ([[10]], False), ([[-1]], False), ([[True]], False), ([[False, 0]], False), ([], False), ([[]], False),
                ([[1, 2], [3, 4]], True), ([[1, 2], [3]], False), ([[1], [3, 4]], False), ([[1, 2], []], False), ([[1], []], False),
                ([[0] * 12] * 12, True), ([[0] * 13], False), ([[0]] * 13, False), ([[0] * 13] * 2, False), ([(1, 2)], False), (((1, 2),), False),
                ([[1], (1,)], False), ([["1"]], False), ([[None]], False), ([[[1]]], False), ([1, 2], False), (["12"], False), ([{1: 2}], False)):
            self.assertIs(is_picture(value), wanted, value)


class TestPictureTexts(SpaceTest):

    def test_texts(self):
        for listed, text in (
                ([[0]], "0"), ([[9]], "9"), ([[1, 2, 3], [4, 5, 6]], "123\n456"), ([[7], [8], [0]], "7\n8\n0"),
                ([[0] * 12] * 12, "\n".join(["000000000000"] * 12)), ([list(range(10))], "0123456789")):
            self.assert_same(picture_text(listed), text)
            self.assert_same(parse_picture(text), listed)
        given = [[1, 2], [3, 4]]
        picture_text(given)
        self.assert_same(given, [[1, 2], [3, 4]])

    def test_there_and_back(self):
        for name in ("house", "shell", "gem"):
            found = picture(kept_tree(BOUNDED[name]), DOWN, 5, 7)
            self.assert_same(parse_picture(picture_text(found)), found)

    def test_lists_are_new(self):
        found = parse_picture("12\n34")
        found[0].append(5)
        found.append([])
        self.assert_same(parse_picture("12\n34"), [[1, 2], [3, 4]])

    def test_faults(self):
        full = "123456789012"
        for text, line, place in (
                ("", 1, 1), ("\n", 1, 1), ("\n1", 1, 1), ("a", 1, 1), (" 1", 1, 1), ("1 ", 1, 2), ("-1", 1, 1), ("1a2", 1, 2), ("12a", 1, 3),
                # The 13th place of the first line, and what is wrong before it.
                (full + "3", 1, 13), (full + "34567", 1, 13), (full + "x", 1, 13), ("12345678901x3", 1, 12), ("x23456789012345", 1, 1),
                # Later lines: wrong characters, places behind the first line's length, lines that are too short or empty.
                ("12\n3x", 2, 2), ("12\nx", 2, 1), ("12\n345", 2, 3), ("12\n34x", 2, 3), ("12\n3x5", 2, 2), ("12\n3", 2, 2), ("12\n", 2, 1),
                ("12\n34\n", 3, 1), ("12\n34\n5", 3, 2), ("1\n2\n34", 3, 2), ("12\n\n34", 2, 1), (full + "\n" + full + "3", 2, 13),
                (full + "\n" + full[:11], 2, 12), ("1\n 2", 2, 1), ("1\n2 ", 2, 2), ("12\n3\n4x", 2, 2),
                # A line 13, after 12 lines without a fault; whatever it holds.
                ("\n".join(["1"] * 13), 13, 1), ("\n".join(["1"] * 12) + "\n", 13, 1), ("\n".join(["1"] * 12) + "\nx", 13, 1),
                ("\n".join(["12"] * 12) + "\n1", 13, 1), ("\n".join(["1"] * 11 + ["x", "1"]), 12, 1), ("\n".join(["1"] * 20), 13, 1),
                ("\n".join(["1"] * 12 + ["x", ""]), 13, 1), ("\n".join(["1"] * 11 + ["", "1"]), 12, 1)):
            self.assert_error("TextFault", parse_picture, text, line=line, place=place)
        self.assert_same(parse_picture("\n".join([full] * 12)), [[int(digit) for digit in full]] * 12)


class TestComparing(SpaceTest):

    def test_pictures_of_unlike_sizes(self):
        for first, second in (
                ([[1]], [[1, 1]]), ([[1]], [[1], [1]]), ([[1, 2]], [[1], [2]]), ([[0] * 12], [[0] * 11]), ([[0]] * 12, [[0]] * 11)):
            self.assertIsNone(compare_pictures(first, second))
            self.assertIsNone(compare_pictures(second, first))

    def test_pictures_of_one_size(self):
        first, second = [[1, 2, 3], [4, 5, 6]], [[1, 0, 9], [4, 5, 7]]
        self.assert_same(compare_pictures(first, second), [(1, 0, 2, 0), (2, 0, 3, 9), (2, 1, 6, 7)])
        self.assert_same(compare_pictures(second, first), [(1, 0, 0, 2), (2, 0, 9, 3), (2, 1, 7, 6)])
        self.assert_same(compare_pictures(first, [list(row) for row in first]), [])
        self.assert_same(compare_pictures([[1]], [[2]]), [(0, 0, 1, 2)])
        self.assert_same(first, [[1, 2, 3], [4, 5, 6]])

    def test_of_solids(self):
        """One more box shows in the pixels above it alone."""
        one, two = picture(CUBE_TREE, DOWN, 12, 12), picture(kept_tree(TWO_IN_A_CORNER), DOWN, 12, 12)
        self.assert_same(compare_pictures(one, two), [(i, j, 0, 8) for j in range(4, 8) for i in range(4, 8)])

    def test_two_cameras_with_one_ray(self):
        """A pinhole and a straight camera whose rays are the same show the same."""
        tree = kept_tree(HOUSE)
        for column, row in ((0, 11), (2, 9), (11, 0)):
            told = camera_ray(DOWN, column, row)
            other = ("pinhole", told[0], told[1], ZERO, ZERO)
            self.assert_same(pixel(tree, other, 0, 0), pixel(tree, DOWN, column, row))
            self.assert_same(camera_ray(other, 3, 4), told)


if __name__ == "__main__":
    unittest.main()
