"""How a tree cuts the points that some conditions leave: the cells that are reached there."""

from everypoint.systems import cut_sides
from everypoint.trees import is_leaf, node_count


def first_ones(conditions):
    """Returns the conditions without those that equal an earlier one."""
    return list({condition: True for condition in conditions})


def parts_from(tree, number):
    """Returns for each side of a node a tuple (part, number of the part's first cell)."""
    plane, front, back = tree
    return {1: (front, number), -1: (back, number + node_count(front) + 1)}


def cells_met(tree, number, given, point):
    """Returns the cells of a part of a tree that have a common point with the given conditions.

    They are tuples (number, way, mark, p): the number of the cell, the conditions on the way to it
    from this part down, its mark, and a point at which the given conditions and the way hold. The
    first cell of the part has the number that is passed; the point is a common point of the
    given conditions.
    """
    return cells_met_below(tree, number, given, [], point)


def cells_met_below(tree, number, given, way, point):
    """Returns what cells_met does, for a part to which the way leads; the point holds for the way, too."""
    if is_leaf(tree):
        return [(number, way, tree, point)]
    plane = tree[0]
    parts = parts_from(tree, number)
    found = []
    # Where the conditions do not reach a side, they reach none of the cells there.
    for side, place in cut_sides(given + way, plane, point):
        part, first = parts[side]
        found.extend(cells_met_below(part, first, given, way + [(plane, side)], place))
    return found
