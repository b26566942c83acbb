"""Vectors and points: tuples of three ratios."""

from everypoint.ratios import (
    add, as_ratio, compare, divide, is_ratio, key_shift, multiply, sign, sort_key, subtract, without_repeats)


def vector(x, y, z):
    """Returns the vector of three numbers."""
    return (as_ratio(x), as_ratio(y), as_ratio(z))


def is_vector(value):
    """True if the value is a tuple of three ratios."""
    return isinstance(value, tuple) and len(value) == 3 and all([is_ratio(part) for part in value])


def plus(u, v):
    """Returns u + v."""
    return (add(u[0], v[0]), add(u[1], v[1]), add(u[2], v[2]))


def minus(u, v):
    """Returns u - v."""
    return (subtract(u[0], v[0]), subtract(u[1], v[1]), subtract(u[2], v[2]))


def scaled(factor, v):
    """Returns factor * v."""
    return (multiply(factor, v[0]), multiply(factor, v[1]), multiply(factor, v[2]))


def dot(u, v):
    """Returns the dot product, a ratio."""
    return add(add(multiply(u[0], v[0]), multiply(u[1], v[1])), multiply(u[2], v[2]))


def cross(u, v):
    """Returns the cross product, a vector."""
    return (
        subtract(multiply(u[1], v[2]), multiply(u[2], v[1])),
        subtract(multiply(u[2], v[0]), multiply(u[0], v[2])),
        subtract(multiply(u[0], v[1]), multiply(u[1], v[0])),
    )


def triple(u, v, w):
    """Returns the dot product of u with the cross product of v and w."""
    return dot(u, cross(v, w))


def is_zero(v):
    """True if all three parts are zero."""
    return v[0][0] == 0 and v[1][0] == 0 and v[2][0] == 0


def axis_vector(axis):
    """Returns the vector with 1 at the axis and zeros elsewhere."""
    return vector(int(axis == 0), int(axis == 1), int(axis == 2))


def blend(p, q, t):
    """Returns p + t * (q - p)."""
    return plus(p, scaled(t, minus(q, p)))


def compare_points(p, q):
    """Returns -1, 0 or 1 by the order of points: by x, then by y, then by z."""
    for x, y in zip(p, q):
        order = compare(x, y)
        if order != 0:
            return order
    return 0


def sort_points(points):
    """Returns the points of a list, ascending, without duplicates."""
    shift = key_shift([part for p in points for part in p])
    ordered = sorted(
        points, key=lambda p: (sort_key(p[0], shift), sort_key(p[1], shift), sort_key(p[2], shift)))
    return without_repeats(ordered)


def in_line(p, q, r):
    """True if the three points lie on one line."""
    return is_zero(cross(minus(q, p), minus(r, p)))


def strictly_between(p, q, r):
    """True if r lies on the segment from p to q and is none of its ends; False if p equals q."""
    for axis in range(3):
        length = subtract(q[axis], p[axis])
        if sign(length) != 0:
            t = divide(subtract(r[axis], p[axis]), length)
            return 0 < t[0] < t[1] and blend(p, q, t) == r
    return False
