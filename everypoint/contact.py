"""How two solids lie to one another: overlaps, contacts, solids that are apart, and halves that part them."""

from everypoint.cutting import cells_met
from everypoint.errors import NoParting
from everypoint.faces import faces
from everypoint.keeping import is_empty, is_full
from everypoint.pieces import convex_witness, inner_point_beyond
from everypoint.planes import make_half, opposite, side_of, value_at
from everypoint.ratios import add, divide, is_ratio, sign, sort_ratios, subtract
from everypoint.shapes import above, below
from everypoint.systems import closed, common_point, dimension, pair_table, weighted_sum
from everypoint.trees import in_cells, is_leaf
from everypoint.vectors import is_vector


def overlap_at(first, second):
    """Returns a tuple (conditions, point) of two "in" cells that overlap, or None if there are none.

    The conditions are those of both cells together, and hold at the point.
    """
    for cell in in_cells(first):
        for number, way, mark, point in cells_met(second, 0, cell, common_point(cell)[1]):
            if mark == "in":
                return (cell + way, point)
    return None


def closed_cells_met(tree, given, point):
    """Returns tuples (conditions, p) for the "in" cells of a tree whose closed forms the given conditions reach.

    The conditions are the given ones and the closed forms of the cell, and hold at p; the given
    ones hold at the point that is passed.
    """
    if is_leaf(tree):
        return [(given, point)] if tree == "in" else []
    plane, front, back = tree
    found = []
    for side, part in ((1, front), (-1, back)):
        conditions = given + [(plane, 2 * side)]
        # A point on the plane or on this side of it serves for this part, too.
        reached = ("point", point) if side_of(plane, point) != -side else common_point(conditions)
        if reached[0] == "point":
            found.extend(closed_cells_met(part, conditions, reached[1]))
    return found


def contacts(first, second):
    """Returns tuples (conditions, p) for the pairs of "in" cells whose closed forms have common points."""
    return [
        met for cell in in_cells(first)
        for met in closed_cells_met(second, closed(cell), common_point(cell)[1])
    ]


def contact_size(found):
    """Returns the greatest dimension among the contacts of solids that do not overlap."""
    largest = 0
    for conditions, point in found:
        largest = max(largest, dimension(conditions))
        if largest == 2:
            return 2
    return largest


def relation(first, second):
    """Returns ("overlap", p), ("touch", size, p) or ("apart",) for two kept trees."""
    overlap = overlap_at(first, second)
    if overlap is not None:
        return ("overlap", overlap[1])
    found = contacts(first, second)
    if not found:
        return ("apart",)
    return ("touch", contact_size(found), found[0][1])


def reach_of(plane, point):
    """Returns the largest r for which no point whose parts differ by less than r from the point's lies on the plane."""
    a, b, c, d = plane
    value = value_at(plane, point)
    return divide((abs(value[0]), value[1]), (abs(a) + abs(b) + abs(c), 1))


def overlap_cube(first, second):
    """Returns a cube (p, r) all of whose points read "in" for both kept trees, or None."""
    overlap = overlap_at(first, second)
    if overlap is None:
        return None
    conditions, point = overlap
    reaches = sort_ratios([reach_of(plane, point) for plane, side in conditions])
    return (point, reaches[0] if reaches else (1, 1))


def cube_conditions(point, reach):
    """Returns the conditions of the points whose parts differ by less than the reach from those of the point."""
    conditions = []
    for axis in range(3):
        part = point[axis]
        conditions.extend([above(axis, subtract(part, reach)), below(axis, add(part, reach))])
    return conditions


def is_overlap_cube(first, second, value):
    """True if the value is a cube (p, r) all of whose points read "in" for both kept trees."""
    if not isinstance(value, tuple) or len(value) != 2:
        return False
    point, reach = value
    if not is_vector(point) or not is_ratio(reach) or sign(reach) <= 0:
        return False
    # The cube is open: a point in it that reads "on" has points near by that are in it and in an "out" cell.
    conditions = cube_conditions(point, reach)
    met = cells_met(first, 0, conditions, point) + cells_met(second, 0, conditions, point)
    return all([mark == "in" for number, way, mark, place in met])


def apart_table(first, second):
    """Returns a pair table of the closed forms of the "in" cells of two kept trees, or None if they are not apart."""
    found = pair_table([closed(cell) for cell in in_cells(first)], [closed(cell) for cell in in_cells(second)])
    return found[1] if found[0] == "none" else None


def is_trivial(tree):
    """True if the solid of the kept tree is empty or full."""
    return is_empty(tree) or is_full(tree)


def inner_halves(tree):
    """Returns the inner sides of the faces of a kept tree, whose meet the solid is if it is convex."""
    return sorted({(plane, inner) for plane, inner, bounds in faces(tree)})


def parting_half(first, second):
    """Returns a half that parts the solid of the first kept tree from that of the second."""
    if is_trivial(first) or is_trivial(second):
        raise NoParting("trivial")
    if convex_witness(first) is not None or convex_witness(second) is not None:
        raise NoParting("bent")
    own = inner_halves(first)
    kind, found = common_point(own + inner_halves(second))
    if kind == "point":
        raise NoParting("overlap")
    # The part of the refutation's sum that belongs to the first solid is above zero there. The rest is at
    # least zero in the second one, and both together are at most zero everywhere.
    a, b, c, d = [weighted_sum(own, found[:len(own)], part) for part in range(4)]
    return make_half(a, b, c, d)


def is_parting(first, second, half):
    """True if the half parts the solid of the first kept tree from that of the second."""
    return inner_point_beyond(first, opposite(half)) is None and inner_point_beyond(second, half) is None
