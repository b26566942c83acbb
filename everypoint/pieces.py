"""Pieces and hollows of a solid, and whether it is convex."""

from everypoint.cutting import cells_met, parts_from
from everypoint.faces import faces
from everypoint.keeping import keep
from everypoint.polygons import is_bounded_cell
from everypoint.systems import closed, common_point, holds
from everypoint.trees import cells, is_leaf, read_tree
from everypoint.vectors import blend, is_vector, strictly_between
from everypoint.walls import marks_of, walls


def neighbours_of(tree):
    """Returns for each cell of a kept tree the list of those neighbours that have the same mark."""
    marks = marks_of(tree)
    found = [[] for _ in marks]
    for plane, bounds, front, back in walls(tree):
        if marks[front] == marks[back]:
            found[front].append(back)
            found[back].append(front)
    return found


def cells_chained(neighbours, start):
    """Returns the cells that a chain of neighbours joins with the cell start, ascending."""
    reached = {start: True}
    waiting = [start]
    while waiting:
        number = waiting.pop()
        for other in neighbours[number]:
            if other not in reached:
                reached[other] = True
                waiting.append(other)
    return sorted(list(reached))


def groups_of(tree, mark):
    """Returns the greatest sets of cells with this mark that chains of neighbours join, by their first cells."""
    neighbours = neighbours_of(tree)
    grouped = {}
    found = []
    for start, other in enumerate(marks_of(tree)):
        if other == mark and start not in grouped:
            group = cells_chained(neighbours, start)
            grouped.update({number: True for number in group})
            found.append(group)
    return found


def pieces(tree):
    """Returns the pieces of the solid of a kept tree, lists of cell numbers."""
    return groups_of(tree, "in")


def hollows(tree):
    """Returns the hollows of the solid of a kept tree, lists of cell numbers."""
    bounded = [is_bounded_cell(conditions) for conditions, mark in cells(tree)]
    return [group for group in groups_of(tree, "out") if all([bounded[number] for number in group])]


def piece_at(tree, point):
    """Returns the number of the piece to which a point that reads "in" belongs, or None for other points."""
    if read_tree(tree, point) != "in":
        return None
    listed = cells(tree)
    for number, group in enumerate(pieces(tree)):
        if any([holds(closed(listed[k][0]), point) for k in group]):
            return number
    return None


def marked_anew(tree, inner, number):
    """Returns the part of a tree that begins with this cell, with "in" at the cells of the dict inner alone."""
    if is_leaf(tree):
        return "in" if number in inner else "out"
    parts = parts_from(tree, number)
    front, back = [marked_anew(parts[side][0], inner, parts[side][1]) for side in (1, -1)]
    return (tree[0], front, back)


def kept_with(tree, groups):
    """Returns the kept tree of the solid with "in" at the cells of these groups and "out" at all others."""
    return keep(marked_anew(tree, {number: True for group in groups for number in group}, 0))


def piece_tree(tree, number):
    """Returns the kept tree of the solid of the piece with this number."""
    return kept_with(tree, [pieces(tree)[number]])


def fill_hollows(tree):
    """Returns the kept tree of the solid with its hollows filled."""
    return kept_with(tree, pieces(tree) + hollows(tree))


def inner_point_beyond(tree, half):
    """Returns a point of the half that reads "in" for the kept tree, or None if there is none."""
    for met in cells_met(tree, 0, [half], common_point([half])[1]):
        if met[2] == "in":
            return met[3]
    return None


def bend_across(tree, face, q):
    """Returns the bend with the point q, which reads "in" and lies on the outer side of the face's plane."""
    plane, inner, bounds = face
    middle = common_point(bounds + [(plane, 0)])[1]
    # Near to the open face, the inner side of its plane reads "in" and the outer side "out".
    k = 2
    while True:
        p, r = blend(q, middle, (k + 1, k)), blend(q, middle, (k - 1, k))
        if read_tree(tree, p) == "in" and read_tree(tree, r) == "out":
            return (p, q, r)
        k *= 2


def convex_witness(tree):
    """Returns a bend (p, q, r) of the solid of a kept tree, or None if it is convex."""
    tried = {}
    for face in faces(tree):
        beyond = (face[0], -face[1])
        if beyond not in tried:
            tried[beyond] = True
            q = inner_point_beyond(tree, beyond)
            if q is not None:
                return bend_across(tree, face, q)
    return None


def is_bend(tree, value):
    """True if the value is a tuple of three points that is a bend of the solid of the kept tree."""
    if not isinstance(value, tuple) or len(value) != 3 or not all([is_vector(part) for part in value]):
        return False
    if not strictly_between(value[0], value[1], value[2]):
        return False
    return [read_tree(tree, part) for part in value] == ["in", "in", "out"]
