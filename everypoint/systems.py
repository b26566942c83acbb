"""Conditions (plane, need): common points, refutations, dimensions, pair tables and sign rows."""

from everypoint.planes import integer_cross, integer_dot, is_plane, parallel, side_of
from everypoint.ratios import add, is_integer, is_ratio, multiply, ratio, sign
from everypoint.simplex import solve


def is_condition(value):
    """True if the value is a tuple (plane, need)."""
    if not isinstance(value, tuple) or len(value) != 2:
        return False
    plane, need = value
    return is_plane(plane) and is_integer(need) and -2 <= need <= 2


def is_conditions(value):
    """True if the value is a list of conditions."""
    return isinstance(value, list) and all([is_condition(member) for member in value])


def is_strict(condition):
    """True if the need is 1 or -1."""
    return condition[1] in (1, -1)


def turn_of(need):
    """Returns the sign with which the value of the plane counts: -1 for a need below zero, else 1."""
    return -1 if need < 0 else 1


def fits(need, side):
    """True if a point with this side at the plane fulfils the need."""
    if need == 0:
        return side == 0
    turned = turn_of(need) * side
    return turned == 1 or (turned == 0 and need in (2, -2))


def holds(conditions, point):
    """True if all conditions hold at the point."""
    for plane, need in conditions:
        if not fits(need, side_of(plane, point)):
            return False
    return True


def closed(conditions):
    """Returns the closed forms of the conditions, in order."""
    return [(plane, 2 * need if need in (1, -1) else need) for plane, need in conditions]


def column_of(condition):
    """Returns the column of a condition as everypoint.simplex takes it."""
    (a, b, c, d), need = condition
    turn = turn_of(need)
    return (turn * a, turn * b, turn * c, turn * d, int(is_strict(condition)))


def turned_column(condition):
    """Returns the column that says that the value is at most zero, for a condition of need 0."""
    a, b, c, d = condition[0]
    return (-a, -b, -c, -d, 0)


def common_point(conditions):
    """Returns ("point", p) or ("none", refutation)."""
    columns = [column_of(condition) for condition in conditions]
    # An equation is two conditions, and a multiplier of either sign the difference of their weights.
    equations = [at for at, condition in enumerate(conditions) if condition[1] == 0]
    columns.extend([turned_column(conditions[at]) for at in equations])
    kind, found = solve(columns)
    if kind == "point":
        x, y, z, w = found
        return ("point", (ratio(x, w), ratio(y, w), ratio(z, w)))
    multipliers = found[:len(conditions)]
    for at, weight in zip(equations, found[len(conditions):]):
        multipliers[at] -= weight
    return ("none", [(m, 1) for m in multipliers])


def has_point(conditions):
    """True if there is a point at which all conditions hold."""
    return common_point(conditions)[0] == "point"


def weighted_sum(conditions, multipliers, part):
    """Returns the sum of multiplier * sign of the need * this part of the plane."""
    total = (0, 1)
    for (plane, need), m in zip(conditions, multipliers):
        total = add(total, multiply(m, (turn_of(need) * plane[part], 1)))
    return total


def is_refutation(conditions, value):
    """True if the value is a refutation of the conditions."""
    if not isinstance(value, list) or len(value) != len(conditions):
        return False
    if not all([is_ratio(m) for m in value]):
        return False
    for condition, m in zip(conditions, value):
        if condition[1] != 0 and sign(m) < 0:
            return False
    for part in range(3):
        if sign(weighted_sum(conditions, value, part)) != 0:
            return False
    total = sign(weighted_sum(conditions, value, 3))
    if total != 0:
        return total < 0
    return any([is_strict(condition) and sign(m) > 0 for condition, m in zip(conditions, value)])


def rank_of(planes):
    """Returns the rank of the normals of a list of planes, from 0 to 3."""
    if not planes:
        return 0
    others = [plane for plane in planes if not parallel(planes[0], plane)]
    if not others:
        return 1
    across = integer_cross(planes[0], others[0])
    return 3 if any([integer_dot(across, plane) != 0 for plane in others]) else 2


def sharpened(conditions, at):
    """Returns the conditions with the one at this place, of need 2 or -2, made strict."""
    plane, need = conditions[at]
    return conditions[:at] + [(plane, turn_of(need))] + conditions[at + 1:]


def holding_planes(conditions, point):
    """Returns the planes of the conditions that hold all common points; the point is one of these."""
    planes = []
    points = [point]
    for at, (plane, need) in enumerate(conditions):
        if need == 0:
            planes.append(plane)
        elif all([side_of(plane, p) == 0 for p in points]):
            kind, found = common_point(sharpened(conditions, at))
            if kind == "point":
                points.append(found)
            else:
                planes.append(plane)
    return planes


def dimension(conditions):
    """Returns the dimension of the set of the common points, from -1 to 3."""
    kind, found = common_point(conditions)
    if kind == "none":
        return -1
    # Some common point is off all other planes, so near it the common points fill what is left.
    return 3 - rank_of(holding_planes(conditions, found))


def pair_table(first, second):
    """Returns ("point", i, j, p) for the first pair with a common point, or ("none", table)."""
    table = []
    for i, one in enumerate(first):
        row = []
        for j, other in enumerate(second):
            kind, found = common_point(one + other)
            if kind == "point":
                return ("point", i, j, found)
            row.append(found)
        table.append(row)
    return ("none", table)


def is_pair_table(first, second, value):
    """True if the value has a refutation for each pair of members of the two lists."""
    if not isinstance(value, list) or len(value) != len(first):
        return False
    for one, row in zip(first, value):
        if not isinstance(row, list) or len(row) != len(second):
            return False
        for other, entry in zip(second, row):
            if not is_refutation(one + other, entry):
                return False
    return True


def cut_sides(conditions, plane, point):
    """Returns a list of tuples (side, p), front first: the sides of the plane that the conditions reach.

    The point that is passed is a common point of the conditions; p is one at this side of the plane.
    """
    side = side_of(plane, point)
    found = []
    for other in (1, -1):
        if other == side:
            found.append((other, point))
        elif (plane, -other) not in conditions:
            kind, place = common_point(conditions + [(plane, other)])
            if kind == "point":
                found.append((other, place))
    return found


def parted_cell(planes, signs, point):
    """Returns the parts into which the plane behind those of the signs cuts their cell.

    The parts are tuples (signs, point); the point that is passed lies in the cell.
    """
    sides = cut_sides(list(zip(planes, signs)), planes[len(signs)], point)
    return [(signs + (side,), place) for side, place in sides]


def sign_rows(planes):
    """Returns the sign rows of a list of distinct planes, ascending."""
    parts = [((), ((0, 1), (0, 1), (0, 1)))]
    for _ in planes:
        parts = [part for signs, point in parts for part in parted_cell(planes, signs, point)]
    return sorted([signs for signs, point in parts])
