"""Walls: where two cells of a tree lie against one another along the plane of a node."""

from everypoint.cutting import cells_met, first_ones, parts_from
from everypoint.systems import common_point
from everypoint.trees import cells, is_leaf, node_planes


def walls_of_node(node, path, number):
    """Returns the walls of a node with these path conditions; its first cell has this number."""
    plane = node[0]
    parts = parts_from(node, number)
    given = path + [(plane, 0)]
    kind, found = common_point(given)
    if kind == "none":
        return []
    own = []
    for front, down, _, place in cells_met(parts[1][0], parts[1][1], given, found):
        for behind in cells_met(parts[-1][0], parts[-1][1], given + down, place):
            own.append((plane, first_ones(path + down + behind[1]), front, behind[0]))
    return own


def walls_below(tree, path, number):
    """Returns the walls of a part of a tree that has these path conditions and this first cell."""
    if is_leaf(tree):
        return []
    found = walls_of_node(tree, path, number)
    parts = parts_from(tree, number)
    for side in (1, -1):
        part, first = parts[side]
        found.extend(walls_below(part, path + [(tree[0], side)], first))
    return found


def walls(tree):
    """Returns the walls (plane, bounds, front, back) of any tree."""
    return walls_below(tree, [], 0)


def marks_of(tree):
    """Returns the marks of the cells."""
    return [mark for conditions, mark in cells(tree)]


def unlike(listed, marks):
    """Returns those walls of a list whose two cells have unlike marks."""
    return [wall for wall in listed if marks[wall[2]] != marks[wall[3]]]


def walls_unlike(tree):
    """Returns the unlike walls, in the order of the walls."""
    return unlike(walls(tree), marks_of(tree))


def is_kept_below(tree, path, number, marks):
    """True if each node of a part of a tree is as point 29 says; the marks are those of the whole tree."""
    if is_leaf(tree):
        return True
    plane, front, back = tree
    if any([other <= plane for other in node_planes(front) + node_planes(back)]):
        return False
    if not unlike(walls_of_node(tree, path, number), marks):
        return False
    parts = parts_from(tree, number)
    return all([
        is_kept_below(parts[side][0], path + [(plane, side)], parts[side][1], marks) for side in (1, -1)])


def is_kept(tree):
    """True if the tree is kept."""
    return is_kept_below(tree, [], 0, marks_of(tree))
