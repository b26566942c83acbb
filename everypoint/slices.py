"""Slices of a bounded solid along an axis: how the area of its level sections goes with the height."""

from everypoint.planes import make_plane
from everypoint.polygons import area_vector, cell_corners, patch_corners
from everypoint.ratios import add, compare, divide, multiply, negate, sort_ratios, subtract
from everypoint.trees import in_cells
from everypoint.vectors import minus, plus, vector


def level_plane(axis, t):
    """Returns the plane of the points whose part at the axis is t."""
    x, y, z = (int(axis == 0), int(axis == 1), int(axis == 2))
    return make_plane(x, y, z, negate(t))


def cell_area(cell, axis, t):
    """Returns the area of the level section of a bounded cell that reaches below and above t."""
    # The normal of a level plane points up along the axis, so this part of the area vector is above zero.
    return area_vector(patch_corners(level_plane(axis, t), cell))[axis]


def area_triple(cell, axis, low, high):
    """Returns the triple (c0, c1, c2) of the areas of a cell between two neighbouring heights of its corners."""
    step = divide(subtract(high, low), (4, 1))
    middle = add(low, add(step, step))
    before = cell_area(cell, axis, subtract(middle, step))
    between = cell_area(cell, axis, middle)
    behind = cell_area(cell, axis, add(middle, step))
    # The areas make up a parabola: its second and first differences tell the bend and the slope in the middle.
    bend = divide(subtract(add(before, behind), add(between, between)), multiply((2, 1), multiply(step, step)))
    slope = divide(subtract(behind, before), multiply((2, 1), step))
    c1 = subtract(slope, multiply((2, 1), multiply(bend, middle)))
    c0 = subtract(between, multiply(middle, add(c1, multiply(bend, middle))))
    return (c0, c1, bend)


def cell_slices(cell, axis):
    """Returns the slices of one cell, between neighbouring heights of its own corners."""
    heights = sort_ratios([corner[axis] for corner in cell_corners(cell)])
    return [(low, high, area_triple(cell, axis, low, high)) for low, high in zip(heights, heights[1:])]


def slices(tree, *, axis=2):
    """Returns the slices (low, high, (c0, c1, c2)) of the solid of a kept tree along the axis."""
    # If the solid is not bounded, one of these cells is not, and its corners are refused.
    change = {}
    for cell in in_cells(tree):
        for low, high, areas in cell_slices(cell, axis):
            change[low] = plus(change.get(low, vector(0, 0, 0)), areas)
            change[high] = minus(change.get(high, vector(0, 0, 0)), areas)
    heights = sort_ratios(list(change))
    listed = []
    total = vector(0, 0, 0)
    for low, high in zip(heights, heights[1:]):
        total = plus(total, change[low])
        if listed and listed[-1][2] == total:
            low = listed.pop()[0]
        listed.append((low, high, total))
    return listed


def sum_below(areas, t):
    """Returns c0 * t + c1 * t * t / 2 + c2 * t * t * t / 3."""
    c0, c1, c2 = areas
    inner = add(divide(c1, (2, 1)), multiply(t, divide(c2, (3, 1))))
    return multiply(t, add(c0, multiply(t, inner)))


def slice_volume(listed):
    """Returns the volume of a list of slices."""
    total = (0, 1)
    for low, high, areas in listed:
        total = add(total, subtract(sum_below(areas, high), sum_below(areas, low)))
    return total


def area_at(listed, t):
    """Returns the area that slices tell for the height t: zero outside of them all, None at an end of one."""
    if not listed or compare(t, listed[0][0]) < 0 or compare(t, listed[-1][1]) > 0:
        return (0, 1)
    for low, high, areas in listed:
        if compare(low, t) < 0 and compare(t, high) < 0:
            c0, c1, c2 = areas
            return add(c0, multiply(t, add(c1, multiply(t, c2))))
    return None
