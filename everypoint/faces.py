"""Faces (plane, inner, bounds): where the reading of a solid changes, and what they tell of the solid."""

from everypoint.errors import Unbounded
from everypoint.keeping import tree_of_rows
from everypoint.planes import normal_of, side_of, value_at
from everypoint.polygons import area_vector, is_bounded_patch, patch_corners, seen_from
from everypoint.ratios import divide, negate, sign
from everypoint.systems import closed, holds, sign_rows
from everypoint.vectors import cross, dot, minus, plus, scaled, sort_points, vector
from everypoint.walls import marks_of, walls_unlike


def faces(tree):
    """Returns the faces (plane, inner, bounds) of a kept tree, in the order of its walls."""
    marks = marks_of(tree)
    return [(plane, 1 if marks[front] == "in" else -1, bounds) for plane, bounds, front, back in walls_unlike(tree)]


def on_face(face, point):
    """True if the point lies on the face."""
    plane, inner, bounds = face
    return side_of(plane, point) == 0 and holds(closed(bounds), point)


def faces_at(listed, point):
    """Returns copies of the faces of a list on which the point lies, in their order."""
    return [(plane, inner, list(bounds)) for plane, inner, bounds in listed if on_face((plane, inner, bounds), point)]


def outward_normal(face):
    """Returns the outward normal of the face."""
    plane, inner, bounds = face
    return scaled((-inner, 1), normal_of(plane))


def face_corners(face):
    """Returns the corners of the face, counterclockwise as seen from outside of the solid."""
    plane, inner, bounds = face
    return seen_from(-inner, patch_corners(plane, bounds))


def area_sum(listed):
    """Returns the sum of the area vectors of the faces of a list."""
    total = vector(0, 0, 0)
    for face in listed:
        total = plus(total, area_vector(face_corners(face)))
    return total


def line_through(p, q):
    """Returns a tuple that is the same for each two points of one line, and for no points of another."""
    along = minus(q, p)
    lead = [x for x in along if sign(x) != 0][0]
    unit = scaled(divide((1, 1), lead), along)
    return (unit, cross(p, unit))


def edges_by_line(listed):
    """Returns a list of lists of the directed edges (p, q) of the faces of a list, one for each line."""
    lines = {}
    for face in listed:
        corners = face_corners(face)
        for p, q in zip(corners, corners[1:] + corners[:1]):
            lines.setdefault(line_through(p, q), []).append((p, q))
    return list(lines.values())


def nets_along(edges):
    """Returns the segments (p, q, net) with a net that is not zero, of directed edges on one line."""
    # Along the line upwards, each edge adds 1 from where it begins on, or takes 1 away from where it
    # ends on: so between its ends its part is 1 if it goes upwards, and -1 if it goes downwards.
    change = {}
    for p, q in edges:
        change[p] = change.get(p, 0) + 1
        change[q] = change.get(q, 0) - 1
    ends = sort_points(list(change))
    segments = []
    net = 0
    for p, q in zip(ends, ends[1:]):
        net += change[p]
        if net != 0:
            segments.append((p, q, net))
    return segments


def open_edges(listed):
    """Returns the open edges (p, q, net) of a list of faces, ascending by p, then by q."""
    segments = [segment for edges in edges_by_line(listed) for segment in nets_along(edges)]
    places = sort_points([p for segment in segments for p in segment[:2]])
    rank = {p: k for k, p in enumerate(places)}
    return sorted(segments, key=lambda segment: (rank[segment[0]], rank[segment[1]]))


def check_bounded(listed):
    """Raises Unbounded if a face of the list is not bounded."""
    for plane, inner, bounds in listed:
        if not is_bounded_patch(plane, bounds):
            raise Unbounded()


def times_met(face, point, direction):
    """Returns how often the ray from a point off the face meets it, 0 or 1, or None if the ray is unfit."""
    plane, inner, bounds = face
    height = value_at(plane, point)
    slope = dot(normal_of(plane), direction)
    if sign(slope) == 0:
        # Within the plane of the face the ray may run along an edge. At most two directions are refused so.
        return None if sign(height) == 0 else 0
    if sign(height) * sign(slope) >= 0:
        return 0
    place = plus(point, scaled(divide(negate(height), slope), direction))
    if not holds(closed(bounds), place):
        return 0
    return 1 if holds(bounds, place) else None


def all_times_met(listed, point, direction):
    """Returns how often the ray from a point off all faces of a list meets them, or None if it is unfit."""
    total = 0
    for face in listed:
        times = times_met(face, point, direction)
        if times is None:
            return None
        total += times
    return total


def read_faces(listed, point):
    """Returns "in", "out" or "on" for the list of all faces of a bounded solid."""
    check_bounded(listed)
    if any([on_face(face, point) for face in listed]):
        return "on"
    k = 0
    times = all_times_met(listed, point, vector(1, 0, 0))
    while times is None:
        k += 1
        times = all_times_met(listed, point, vector(1, k, k * k))
    return "out" if times % 2 == 0 else "in"


def rows_beside(listed, planes):
    """Returns a dict with the truths of those sign rows of the planes whose cells lie against a face of the list."""
    truths = {}
    for signs in sign_rows(planes):
        sides = dict(zip(planes, signs))
        for plane, inner, bounds in listed:
            if all([sides[other] == side for other, side in bounds]):
                truths[signs] = sides[plane] == inner
    return truths


def tree_of_faces(listed):
    """Returns the kept tree of the bounded solid whose faces are listed."""
    check_bounded(listed)
    if not listed:
        return "out"
    # Each plane of a kept tree has a face. The other rows are not needed: two neighbouring rows of
    # unlike truths lie against a face, so the same planes show; and each leaf has an unlike wall
    # with a leaf below the other part of its own node, so some row beside a face tells its mark.
    planes = sorted({face[0] for face in listed})
    return tree_of_rows(planes, rows_beside(listed, planes))
