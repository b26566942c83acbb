"""Planes (a, b, c, d) in their one form, and halves (plane, side)."""

from math import gcd, lcm

from everypoint.errors import Flat, InLine, NoNormal
from everypoint.ratios import as_ratio, integer_sign, is_integer, ratio
from everypoint.vectors import cross, dot, is_zero, minus, vector


def half_of_integers(a, b, c, d):
    """Returns the half of the points with ax + by + cz + d > 0, for four integers."""
    if a == 0 and b == 0 and c == 0:
        raise NoNormal()
    side = integer_sign(a or b or c)
    shared = side * gcd(a, b, c, d)
    return ((a // shared, b // shared, c // shared, d // shared), side)


def make_half(a, b, c, d):
    """Returns the half of the points with ax + by + cz + d > 0, for four numbers."""
    x, y, z, w = as_ratio(a), as_ratio(b), as_ratio(c), as_ratio(d)
    common = lcm(x[1], y[1], z[1], w[1])
    return half_of_integers(
        x[0] * (common // x[1]), y[0] * (common // y[1]), z[0] * (common // z[1]), w[0] * (common // w[1]))


def make_plane(a, b, c, d):
    """Returns the plane of the points with ax + by + cz + d = 0, for four numbers."""
    return make_half(a, b, c, d)[0]


def is_plane(value):
    """True if the value is a tuple of four integers in the one form of a plane."""
    if not isinstance(value, tuple) or len(value) != 4 or not all([is_integer(part) for part in value]):
        return False
    a, b, c, d = value
    return (a or b or c) > 0 and gcd(a, b, c, d) == 1


def is_half(value):
    """True if the value is a tuple (plane, side) with side 1 or -1."""
    if not isinstance(value, tuple) or len(value) != 2:
        return False
    plane, side = value
    return is_plane(plane) and is_integer(side) and side in (1, -1)


def scaled_value(plane, point):
    """Returns two integers, the second above zero, whose quotient is the value of the plane at the point."""
    a, b, c, d = plane
    (x, x_bottom), (y, y_bottom), (z, z_bottom) = point
    yz_bottom = y_bottom * z_bottom
    top = x_bottom * (b * y * z_bottom + c * z * y_bottom + d * yz_bottom) + a * x * yz_bottom
    return top, x_bottom * yz_bottom


def value_at(plane, point):
    """Returns the value of the plane at the point, a ratio."""
    top, bottom = scaled_value(plane, point)
    return ratio(top, bottom)


def side_of(plane, point):
    """Returns 1 in front of the plane, -1 at its back, 0 on it."""
    return integer_sign(scaled_value(plane, point)[0])


def normal_of(plane):
    """Returns the normal, a vector."""
    return vector(plane[0], plane[1], plane[2])


def opposite(half):
    """Returns the half with the same plane and the other side."""
    plane, side = half
    return (plane, -side)


def plane_through(p, q, r):
    """Returns the plane through three points."""
    normal = cross(minus(q, p), minus(r, p))
    if is_zero(normal):
        raise InLine()
    top, bottom = dot(normal, p)
    return make_plane(normal[0], normal[1], normal[2], (-top, bottom))


def half_through(p, q, r, inside):
    """Returns the half whose plane passes through p, q, r and that has the point inside in it."""
    plane = plane_through(p, q, r)
    side = side_of(plane, inside)
    if side == 0:
        raise Flat()
    return (plane, side)


def integer_cross(u, v):
    """Returns the cross product of the first three integers of u and of v."""
    return (u[1] * v[2] - u[2] * v[1], u[2] * v[0] - u[0] * v[2], u[0] * v[1] - u[1] * v[0])


def integer_dot(u, v):
    """Returns the dot product of the first three integers of u and of v."""
    return u[0] * v[0] + u[1] * v[1] + u[2] * v[2]


def integer_cofactors(u, v, w):
    """Returns the three cross products v x w, w x u and u x v; u times the first is the determinant."""
    return (integer_cross(v, w), integer_cross(w, u), integer_cross(u, v))


def parallel(first, second):
    """True if the normals of two planes are parallel."""
    return integer_cross(first, second) == (0, 0, 0)


def meeting_point(first, second, third):
    """Returns the only common point of three planes, or None if they do not have exactly one."""
    across = integer_cofactors(first, second, third)
    bottom = integer_dot(first, across[0])
    if bottom == 0:
        return None
    # Cramer's rule, with -d of each plane on the right-hand side.
    tops = [
        -(first[3] * across[0][axis] + second[3] * across[1][axis] + third[3] * across[2][axis])
        for axis in range(3)
    ]
    return (ratio(tops[0], bottom), ratio(tops[1], bottom), ratio(tops[2], bottom))
