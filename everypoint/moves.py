"""Moves (rows, shift): a point p goes to Mp + s, where the rows are those of M and s is the shift."""

from math import lcm

from everypoint.errors import Singular
from everypoint.planes import half_of_integers, integer_cofactors, integer_dot
from everypoint.ratios import integer_sign, ratio, sign
from everypoint.vectors import axis_vector, dot, is_vector, plus, scaled, triple, vector

STILL = (
    (((1, 1), (0, 1), (0, 1)), ((0, 1), (1, 1), (0, 1)), ((0, 1), (0, 1), (1, 1))),
    ((0, 1), (0, 1), (0, 1)),
)


def make_move(rows, shift):
    """Returns the move with the matrix of three rows of three numbers and the shift of three numbers."""
    first, second, third = rows
    matrix = (vector(*first), vector(*second), vector(*third))
    if triple(*matrix) == (0, 1):
        raise Singular()
    return (matrix, vector(*shift))


def is_move(value):
    """True if the value is a tuple (rows, shift) with a determinant that is not zero."""
    if not isinstance(value, tuple) or len(value) != 2:
        return False
    rows, shift = value
    if not isinstance(rows, tuple) or len(rows) != 3 or not all([is_vector(row) for row in rows]):
        return False
    return is_vector(shift) and triple(*rows) != (0, 1)


def shift_by(step):
    """Returns the move that shifts by the vector step."""
    return (STILL[0], step)


def scale_by(factors):
    """Returns the move that multiplies x, y, z by the parts of the vector factors."""
    if any([sign(factor) == 0 for factor in factors]):
        raise Singular()
    x, y, z = factors
    return ((scaled(x, axis_vector(0)), scaled(y, axis_vector(1)), scaled(z, axis_vector(2))), STILL[1])


def mirror_axis(axis):
    """Returns the move that changes the sign of the part at the axis."""
    factors = [(-1, 1) if k == axis else (1, 1) for k in range(3)]
    return scale_by((factors[0], factors[1], factors[2]))


def one_turn(axis):
    """Returns the move of one quarter turn: with the axes in their cycle, (x, y, z) goes to (x, -z, y)."""
    follower = (axis + 1) % 3
    last = (axis + 2) % 3
    rows = [STILL[0][0], STILL[0][1], STILL[0][2]]
    rows[follower] = scaled((-1, 1), axis_vector(last))
    rows[last] = axis_vector(follower)
    return (tuple(rows), STILL[1])


def quarter_turn(axis, times=1):
    """Returns the move of the quarter turn about the axis, done 0 to 3 times."""
    move = STILL
    for _ in range(times):
        move = combine(move, one_turn(axis))
    return move


def moved_point(move, point):
    """Returns the point to which the move takes the point."""
    return plus(moved_vector(move, point), move[1])


def moved_vector(move, direction):
    """Returns the matrix times the direction, without the shift."""
    rows = move[0]
    return (dot(rows[0], direction), dot(rows[1], direction), dot(rows[2], direction))


def whole_rows(move):
    """Returns for each row of the move integers (a, b, c, s, scale).

    The part of the moved point at this row, times scale, is ax + by + cz + s.
    """
    whole = []
    for row, step in zip(move[0], move[1]):
        scale = lcm(row[0][1], row[1][1], row[2][1], step[1])
        whole.append([top * (scale // bottom) for top, bottom in row + (step,)] + [scale])
    return whole


def moved_half(move, half):
    """Returns the half of the moved points."""
    plane, side = half
    # Integers alone: with one division at the end this is much faster than an inverse of ratios.
    # The point is the sum of across[k] * (scale[k] * moved[k] - s[k]) / bottom over the rows k.
    rows = whole_rows(move)
    across = integer_cofactors(rows[0], rows[1], rows[2])
    bottom = integer_dot(rows[0], across[0])
    turn = side * integer_sign(bottom)
    parts = [turn * integer_dot(plane, column) for column in across]
    last = turn * plane[3] * bottom - sum([part * row[3] for part, row in zip(parts, rows)])
    return half_of_integers(parts[0] * rows[0][4], parts[1] * rows[1][4], parts[2] * rows[2][4], last)


def combine(first, second):
    """Returns the move that does first and then second."""
    rows = first[0]
    products = [
        plus(plus(scaled(row[0], rows[0]), scaled(row[1], rows[1])), scaled(row[2], rows[2]))
        for row in second[0]
    ]
    return (tuple(products), moved_point(second, first[1]))


def inverse(move):
    """Returns the move that takes each moved point back."""
    rows = whole_rows(move)
    across = integer_cofactors(rows[0], rows[1], rows[2])
    bottom = integer_dot(rows[0], across[0])
    matrix = [
        tuple([ratio(column[axis] * row[4], bottom) for column, row in zip(across, rows)])
        for axis in range(3)
    ]
    shift = [
        ratio(-sum([column[axis] * row[3] for column, row in zip(across, rows)]), bottom)
        for axis in range(3)
    ]
    return (tuple(matrix), tuple(shift))


def determinant(move):
    """Returns the determinant of the matrix."""
    rows = move[0]
    return triple(*rows)


def mirrors(move):
    """True if the determinant is below zero."""
    return sign(determinant(move)) < 0
