"""Rays (origin, direction): the readings along them, and where they first meet a solid."""

from everypoint.errors import NoDirection
from everypoint.faces import faces, faces_at
from everypoint.planes import normal_of, value_at
from everypoint.ratios import add, compare, divide, middle, negate, sign, sort_ratios, subtract
from everypoint.trees import read_tree, tree_planes
from everypoint.vectors import dot, is_vector, is_zero, plus, scaled


def is_ray(value):
    """True if the value is a tuple of two vectors."""
    return isinstance(value, tuple) and len(value) == 2 and all([is_vector(part) for part in value])


def ray_point(ray, t):
    """Returns the ray's point at t."""
    origin, direction = ray
    return plus(origin, scaled(t, direction))


def crossings(tree, ray):
    """Returns zero and each t above zero at which the ray crosses a plane of the tree, ascending."""
    origin, direction = ray
    if is_zero(direction):
        raise NoDirection()
    found = [(0, 1)]
    for plane in tree_planes(tree):
        slope = dot(normal_of(plane), direction)
        if sign(slope) != 0:
            t = divide(negate(value_at(plane, origin)), slope)
            if sign(t) > 0:
                found.append(t)
    return sort_ratios(found)


def reading_at(tree, ray, t):
    """Returns the reading of the kept tree at the ray's point at t."""
    return read_tree(tree, ray_point(ray, t))


def spans(tree, ray):
    """Returns the spans (t, at, after) of the solid of a kept tree along the ray."""
    times = crossings(tree, ray)
    # Between two crossings the reading does not change, so one point tells it.
    between = [middle(t, later) for t, later in zip(times, times[1:])] + [add(times[-1], (1, 1))]
    found = []
    last = None
    for t, later in zip(times, between):
        at, after = reading_at(tree, ray, t), reading_at(tree, ray, later)
        if at != last or after != last:
            found.append((t, at, after))
        last = after
    return found


def read_spans(listed, t):
    """Returns the reading at t, a ratio of at least zero, that a list of spans tells."""
    reading = None
    for start, at, after in listed:
        order = compare(start, t)
        if order == 0:
            return at
        if order < 0:
            reading = after
    return reading


def in_length(listed):
    """Returns how much of t the spans tell to be "in", or None if this has no end."""
    if listed[-1][2] == "in":
        return None
    total = (0, 1)
    for span, later in zip(listed, listed[1:]):
        if span[2] == "in":
            total = add(total, subtract(later[0], span[0]))
    return total


def hit_on(tree, listed, ray):
    """Returns the first hit of the ray, for a kept tree and the list of its faces."""
    # The points that do not read "out" are a closed set, so the first one is the origin or lies at a crossing.
    for t in crossings(tree, ray):
        point = ray_point(ray, t)
        reading = read_tree(tree, point)
        if reading != "out":
            return (t, reading, sorted({(plane, inner) for plane, inner, bounds in faces_at(listed, point)}))
    return None


def first_hit(tree, ray):
    """Returns the first hit (t, reading, halves) of the ray, or None if there is none."""
    return hit_on(tree, faces(tree), ray)
