"""Volumes of solids, by cells and by faces, and their sections by planes."""

from everypoint.cutting import first_ones
from everypoint.errors import Unbounded
from everypoint.faces import face_corners, faces
from everypoint.polygons import area_vector, cell_volume, is_bounded, patch_corners, volume_within
from everypoint.ratios import add, negate, sign
from everypoint.systems import common_point, cut_sides
from everypoint.trees import in_cells, is_leaf


def volume_by_cells(tree):
    """Returns the volume of the solid of a kept tree, as the sum of those of its "in" cells."""
    # If the solid is not bounded, one of these cells is not, and its volume is refused.
    total = (0, 1)
    for cell in in_cells(tree):
        total = add(total, cell_volume(cell))
    return total


def volume_by_faces(tree):
    """Returns the volume of the solid of a kept tree, from its faces."""
    # The faces alone do not tell: those of the outside of a box are bounded.
    if not is_bounded(tree):
        raise Unbounded()
    return volume_within([face_corners(face) for face in faces(tree)])


def section_below(tree, plane, bounds, point):
    """Returns tuples (bounds, p) for the patches of the section in a part of a kept tree.

    The bounds that are passed hold at the point, and those of each patch at its p; both lie on the plane.
    """
    if is_leaf(tree):
        return [(bounds, point)] if tree == "in" else []
    cut, front, back = tree
    if cut == plane:
        # A patch here has the solid on both sides, so it lies in a patch of the front and in one of the back part.
        return [
            (first_ones(both), place)
            for before, start in section_below(front, plane, bounds, point)
            for both, place in section_below(back, plane, before, start)
        ]
    found = []
    for side, place in cut_sides([(plane, 0)] + bounds, cut, point):
        found.extend(section_below(front if side == 1 else back, plane, bounds + [(cut, side)], place))
    return found


def section(tree, plane):
    """Returns the section of a kept tree by the plane, a list of bounds."""
    start = common_point([(plane, 0)])[1]
    return [bounds for bounds, point in section_below(tree, plane, [], start)]


def section_area(tree, plane, *, axis=2):
    """Returns the area along the axis of the section of a kept tree by the plane."""
    total = (0, 1)
    for bounds in section(tree, plane):
        part = area_vector(patch_corners(plane, bounds))[axis]
        total = add(total, part if sign(part) > 0 else negate(part))
    return total
