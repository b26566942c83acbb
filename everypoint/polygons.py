"""Cells as bodies with corners: their far directions, facets and volumes, and the polygons of flat patches."""

from everypoint.errors import Unbounded
from everypoint.planes import (
    half_of_integers, integer_cross, integer_dot, make_plane, meeting_point, normal_of, parallel, side_of)
from everypoint.ratios import add, multiply, sign
from everypoint.systems import closed, common_point, holds
from everypoint.trees import in_cells
from everypoint.vectors import cross, dot, minus, plus, scaled, sort_points, vector


def across_all(planes):
    """Returns a vector, not zero, that is perpendicular to the normals of all planes, or None."""
    if not planes:
        return vector(1, 0, 0)
    first = planes[0]
    others = [plane for plane in planes if not parallel(first, plane)]
    if not others:
        a, b, c, d = first
        return vector(b, -a, 0) if a != 0 or b != 0 else vector(1, 0, 0)
    across = integer_cross(first, others[0])
    if any([integer_dot(across, plane) != 0 for plane in others]):
        return None
    return vector(*across)


def far_vector(flats, halves):
    """Returns a vector, not zero, that runs along the planes of the list flats and leaves no half, or None."""
    free = across_all(flats + [plane for plane, side in halves])
    if free is not None:
        return free
    # The normals span space. So such a vector is not along all of the planes, and as it leaves no
    # half, the sum of the inner normals has a product with it that is above zero.
    a, b, c = [sum([side * plane[axis] for plane, side in halves]) for axis in range(3)]
    if a == 0 and b == 0 and c == 0:
        return None
    conditions = [(make_plane(plane[0], plane[1], plane[2], 0), 0) for plane in flats]
    inner = [half_of_integers(side * plane[0], side * plane[1], side * plane[2], 0) for plane, side in halves]
    kind, found = common_point([half_of_integers(a, b, c, 0)] + conditions + closed(inner))
    return found if kind == "point" else None


def far_direction(cell):
    """Returns a far direction of the cell, or None if the cell is bounded."""
    return far_vector([], cell)


def is_bounded_cell(cell):
    """True if the cell is bounded."""
    return far_direction(cell) is None


def planes_among(conditions):
    """Returns the planes of the conditions, ascending, without duplicates."""
    return sorted({plane for plane, need in conditions})


def corners_on(plane, others, bounds):
    """Returns the points where the plane meets two of the others and the closed forms of the bounds hold."""
    limits = closed(bounds)
    found = []
    for at, first in enumerate(others):
        for second in others[:at]:
            point = meeting_point(plane, first, second)
            if point is not None and holds(limits, point):
                found.append(point)
    return found


def corners_of_bounded(cell):
    """Returns the corners of a bounded cell, ascending, without duplicates."""
    planes = planes_among(cell)
    return sort_points([p for at, plane in enumerate(planes) for p in corners_on(plane, planes[:at], cell)])


def cell_corners(cell):
    """Returns the corners of the cell, ascending, without duplicates."""
    if not is_bounded_cell(cell):
        raise Unbounded()
    return corners_of_bounded(cell)


def is_bounded_patch(plane, bounds):
    """True if the patch is bounded."""
    return far_vector([plane], bounds) is None


def gone_around(plane, corners, bounds):
    """Returns the polygon of a bounded patch whose corners are told, ascending."""
    follower = {}
    for other, side in bounds:
        ends = [p for p in corners if side_of(other, p) == 0]
        if len(ends) == 2:
            # With the front towards the eye and the patch to the left, the side runs along inner normal x normal.
            along = scaled((side, 1), cross(normal_of(other), normal_of(plane)))
            at = int(sign(dot(along, minus(ends[1], ends[0]))) > 0)
            follower[ends[1 - at]] = ends[at]
    polygon = [corners[0]]
    while len(polygon) < len(corners):
        polygon.append(follower[polygon[-1]])
    return polygon


def patch_corners(plane, bounds):
    """Returns the polygon of the patch, counterclockwise as seen from the front of the plane."""
    if not is_bounded_patch(plane, bounds):
        raise Unbounded()
    return gone_around(plane, sort_points(corners_on(plane, planes_among(bounds), bounds)), bounds)


def seen_from(side, polygon):
    """Returns the polygon as seen from this side of its plane, with the same first corner."""
    return polygon if side == 1 else polygon[:1] + polygon[:0:-1]


def area_vector(corners):
    """Returns half the sum of the cross products of each point with the next one."""
    total = vector(0, 0, 0)
    for p, q in zip(corners, corners[1:] + corners[:1]):
        total = plus(total, cross(p, q))
    return scaled((1, 2), total)


def cell_facets(cell):
    """Returns the facets (half, corners) of the cell, ordered by plane."""
    corners = cell_corners(cell)
    facets = []
    for plane, side in sorted(set(cell)):
        # The corners on one plane of a cell are those of a facet, of an edge, or one alone, or there are none.
        around = [p for p in corners if side_of(plane, p) == 0]
        if len(around) > 2:
            others = [condition for condition in cell if condition[0] != plane]
            facets.append(((plane, side), seen_from(-side, gone_around(plane, around, others))))
    return facets


def volume_within(polygons):
    """Returns the volume inside of polygons that enclose it, each as seen from outside."""
    total = (0, 1)
    for corners in polygons:
        total = add(total, dot(corners[0], area_vector(corners)))
    return multiply((1, 3), total)


def cell_volume(cell):
    """Returns the volume of the cell."""
    return volume_within([corners for half, corners in cell_facets(cell)])


def is_bounded(tree):
    """True if the solid of the kept tree is bounded."""
    return far_ray(tree) is None


def far_ray(tree):
    """Returns a far ray (origin, direction) of the solid of the kept tree, or None if the solid is bounded."""
    for cell in in_cells(tree):
        direction = far_direction(cell)
        if direction is not None:
            return (common_point(cell)[1], direction)
    return None
