"""Expressions, trees and points that several tests share."""

import itertools
import random

from everypoint.errors import Flat, TooLarge
from everypoint.expressions import planes_of
from everypoint.keeping import keep, kept_tree
from everypoint.planes import meeting_point
from everypoint.ratios import ratio
from everypoint.shapes import box, octahedron, tetrahedron, wedge
from everypoint.systems import common_point, has_point
from everypoint.vectors import vector
from support import X0, Y0, Z0, plane_at, point

EMPTY, FULL = ("empty",), ("full",)
CUBE = box(point(0, 0, 0), point(1, 1, 1))
HOUSE = ("join", CUBE, wedge(point(0, 0, 1), point(1, 1, 2)))
RING = ("take", box(point(0, 0, 0), point(3, 3, 1)), box(point(1, 1, -1), point(2, 2, 2)))
SHELL = ("take", box(point(0, 0, 0), point(3, 3, 3)), box(point(1, 1, 1), point(2, 2, 2)))
TWO_IN_A_FACE = ("join", CUBE, box(point(1, 0, 0), point(2, 1, 1)))
TWO_IN_PART_OF_A_FACE = ("join", CUBE, box(point(1, (1, 2), 0), point(2, 2, 3)))
TWO_IN_AN_EDGE = ("join", CUBE, box(point(1, 1, 0), point(2, 2, 1)))
TWO_IN_A_CORNER = ("join", CUBE, box(point(1, 1, 1), point(2, 2, 2)))
TWO_APART = ("join", CUBE, box(point(3, 0, 0), point(4, 2, 1)))
CORNERED = ("take", box(point(0, 0, 0), point(2, 2, 2)), box(point(1, 1, 1), point(3, 3, 3)))
GEM = octahedron(point(0, (1, 2), 0), (3, 2))
SPIKE = tetrahedron(point(0, 0, 0), point(2, 0, 0), point(0, 3, 0), point(0, (1, 2), 4))

BOUNDED = {
    "cube": CUBE, "house": HOUSE, "ring": RING, "shell": SHELL, "in a face": TWO_IN_A_FACE,
    "in part of a face": TWO_IN_PART_OF_A_FACE, "in an edge": TWO_IN_AN_EDGE, "in a corner": TWO_IN_A_CORNER,
    "apart": TWO_APART, "cornered": CORNERED, "gem": GEM, "spike": SPIKE, "both": ("meet", GEM, SPIKE),
    "cube in pieces": ("join", ("meet", CUBE, ("half", (2, 2, 0, -1), 1)), ("meet", CUBE, ("half", (2, 2, 0, -1), -1))),
}
NOT_BOUNDED = {
    "full": FULL, "half": ("half", Z0, 1), "outside of a cube": ("outside", CUBE), "outside of a shell": ("outside", SHELL),
    "quarter": ("meet", ("half", X0, 1), ("half", Y0, -1)), "layer": ("meet", ("half", Z0, 1), ("half", (0, 0, 1, -2), -1)),
    "pillar": ("meet", ("meet", ("half", X0, 1), ("half", plane_at(0, 1), -1)),
               ("meet", ("half", Y0, 1), ("half", plane_at(1, 1), -1))),
    "cone": ("meet", ("meet", ("half", X0, 1), ("half", Y0, 1)), ("half", Z0, 1)),
    "cube and half": ("join", CUBE, ("half", plane_at(2, 5), 1)),
}


def some_plane(chooser, reach=3):
    while True:
        a, b, c, d = [chooser.randint(-reach, reach) for _ in range(4)]
        half = (a, b, c, d)
        if (a, b, c) != (0, 0, 0):
            lead = next(part for part in half if part != 0)
            shared = abs(lead)
            for part in half:
                while part % shared != 0 or lead % shared != 0:
                    shared -= 1
            return tuple(part // shared * (1 if lead > 0 else -1) for part in half)


def some_planes(chooser, count, reach=3):
    planes = []
    while len(planes) < count:
        plane = some_plane(chooser, reach)
        if plane not in planes:
            planes.append(plane)
    return planes


def some_expression(chooser, planes, leaves):
    """An expression with this many leaves, most of which are halves of the planes."""
    if leaves == 1:
        if chooser.random() < 0.05:
            return chooser.choice((EMPTY, FULL))
        return ("half", chooser.choice(planes), chooser.choice((1, -1)))
    if chooser.random() < 0.15:
        return ("outside", some_expression(chooser, planes, leaves))
    count = chooser.randint(1, leaves - 1)
    word = chooser.choice(("join", "join", "meet", "meet", "take"))
    return (word, some_expression(chooser, planes, count), some_expression(chooser, planes, leaves - count))


def some_point(chooser, reach=3, bottom=3):
    return vector(*[ratio(chooser.randint(-reach, reach), chooser.randint(1, bottom)) for _ in range(3)])


def some_body(chooser):
    """A bounded expression: a shape with small numbers."""
    while True:
        p, q, r, s = [some_point(chooser) for _ in range(4)]
        try:
            return chooser.choice((
                lambda: box(p, q), lambda: wedge(p, q), lambda: tetrahedron(p, q, r, s),
                lambda: octahedron(p, (chooser.randint(1, 3), 1))))()
        except Flat:
            pass


def some_kept_trees(chooser, make, count):
    """Tuples (expression, kept tree) for expressions that are made, none of them too large."""
    found = []
    while len(found) < count:
        expression = make()
        try:
            found.append((expression, kept_tree(expression)))
        except TooLarge:
            pass
    return found


def some_bodies(seed, count):
    """Tuples (expression, kept tree) for bounded expressions of two shapes."""
    chooser = random.Random(seed)
    return some_kept_trees(
        chooser, lambda: (chooser.choice(("join", "meet", "take")), some_body(chooser), some_body(chooser)), count)


def telling_points(planes, chooser, most=12):
    """Points off and on the planes: in corners of three of them, on two of them, on one, and on none."""
    found = []
    for triple in itertools.combinations(planes, 3):
        corner = meeting_point(*triple)
        if corner is not None:
            found.append(corner)
    for first, second in itertools.combinations(planes, 2):
        conditions = [(first, 0), (second, 0), (some_plane(chooser, 5), chooser.choice((1, -1)))]
        if has_point(conditions):
            found.append(common_point(conditions)[1])
    for plane in planes:
        conditions = [(plane, 0), (some_plane(chooser, 5), 1), (some_plane(chooser, 5), -1)]
        if has_point(conditions):
            found.append(common_point(conditions)[1])
    chooser.shuffle(found)
    return found[:most] + [some_point(chooser) for _ in range(3)]


def points_of(expression, seed, most=12):
    return telling_points(planes_of(expression), random.Random(seed), most)


def xor(x, y):
    return ("join", ("take", x, y), ("take", y, x))


def stripes(axis, shift=0):
    """Two layers across the axis: from 0 to 1 and from 2 to 3."""
    def layer(low):
        return ("meet", ("half", plane_at(axis, low + shift), 1), ("half", plane_at(axis, low + 1 + shift), -1))
    return ("join", layer(0), layer(2))


# The kept tree has 64 nodes and 12 planes; the size is 55.
CHECKERED = (
    "join", ("meet", xor(stripes(0), stripes(1)), stripes(2)), ("take", stripes(0), stripes(2)))


def chequered_tree(planes, others, even="in", odd="out"):
    """A tree with the marks of a chequered floor, cut by the planes and then by the others (both descend)."""
    if planes:
        return (
            planes[0], chequered_tree([], others, even, odd), chequered_tree(planes[1:], others, odd, even))
    if others:
        return (others[0], even, chequered_tree([], others[1:], odd, even))
    return even


def levels(axis, count=4):
    """Planes across the axis, descending by their places; as tuples they ascend."""
    return [plane_at(axis, count - 1 - k) for k in range(count)]


def layered_tree(first, second, third):
    """The tree with planes of the first axis on top, and in every second layer a chequered floor of the others."""
    def below(planes, filled):
        floor = chequered_tree(levels(second), levels(third)) if filled else "out"
        return floor if not planes else (planes[0], floor, below(planes[1:], not filled))
    return below(levels(first), False)


def row_of(axis, parts):
    """The tree with these parts one after the other along the axis, from 0 on, each of length 1."""
    tree = "out"
    for k, part in enumerate(parts):
        tree = (plane_at(axis, k), part, tree)
    return (plane_at(axis, len(parts)), "out", tree)


def spread_solid():
    """A solid of two pieces: a large one, and a small bounded one that touches it in edges alone.

    Only the small one has a face on the plane y = 0, by which the kept tree is cut first. Without it
    the steep planes cut the whole space first, and in each of the parts stands what lies below.
    """
    across = ("half", (50, 50, 0, 1), 1)
    steep = [("half", (3, -1, 0, c), 1) for c in (2, 4, 6, 8)]
    gentle = [("half", (10, -30, 0, -d), 1) for d in (31, 61, 91)]
    lowest, lower, upper = [("half", (70, 1, 2800, d), 1) for d in (2800, 0, -2800)]
    layer, rest = ("take", lower, upper), ("join", ("take", lowest, lower), upper)
    strips = [("take", steep[1], steep[0]), ("take", steep[3], steep[2])]
    dents = ("join", ("join", ("take", rest, gentle[1]), ("meet", gentle[2], rest)), ("meet", ("take", gentle[1], gentle[2]), layer))
    large = (
        "join", ("take", across, ("meet", ("join", *strips), layer)), ("take", ("take", gentle[0], across), dents))
    return ("join", large, ("meet", ("take", strips[1], across), ("meet", ("half", Y0, 1), layer)))


# The kept tree has 31 nodes and 12 planes, that of its greater piece has 61 or more.
SPREAD = spread_solid()

# 14 of the 27 unit cubes from 0 to 3, no two of which touch in a face.
CUBES_TREE = keep(row_of(2, [
    row_of(1, [row_of(0, ["in" if (i + j + k) % 2 == 0 else "out" for i in range(3)]) for j in range(3)])
    for k in range(3)]))
