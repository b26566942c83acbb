"""Trees that cut space plane by plane: "in", "out", or (plane, front, back)."""

from everypoint.errors import TextFault, TooLarge
from everypoint.expressions import MOST_PLANES
from everypoint.outlines import outline_text, parse_outline, read_plane, words_end
from everypoint.planes import is_plane, side_of
from everypoint.systems import common_point, has_point

MOST_NODES = 60
MOST_TREE_DEPTH = 16

MARKS = ("in", "out")


def is_leaf(tree):
    """True if the tree is a mark."""
    return isinstance(tree, str)


def is_tree(value):
    """True if the value is a tree, whatever its size."""
    if isinstance(value, str):
        return value in MARKS
    if not isinstance(value, tuple) or len(value) != 3:
        return False
    return is_plane(value[0]) and is_tree(value[1]) and is_tree(value[2])


def node_planes(tree):
    """Returns the plane of each node, from the root down, front parts first."""
    if is_leaf(tree):
        return []
    plane, front, back = tree
    return [plane] + node_planes(front) + node_planes(back)


def node_count(tree):
    """Returns the number of nodes."""
    return len(node_planes(tree))


def tree_depth(tree):
    """Returns the greatest number of nodes on a way from the root to a leaf."""
    if is_leaf(tree):
        return 0
    return 1 + max(tree_depth(tree[1]), tree_depth(tree[2]))


def tree_planes(tree):
    """Returns the planes of the nodes, ascending, without duplicates."""
    return sorted(set(node_planes(tree)))


def cells_below(tree, conditions):
    """Returns the cells of a part of a tree that has these path conditions."""
    if is_leaf(tree):
        return [(conditions, tree)]
    plane, front, back = tree
    return cells_below(front, conditions + [(plane, 1)]) + cells_below(back, conditions + [(plane, -1)])


def cells(tree):
    """Returns the cells (conditions, mark), one for each leaf, front parts first."""
    return cells_below(tree, [])


def marked_cells(tree, wanted):
    """Returns the conditions of the cells with the wanted mark."""
    return [conditions for conditions, mark in cells(tree) if mark == wanted]


def in_cells(tree):
    """Returns the conditions of the cells with the mark "in"."""
    return marked_cells(tree, "in")


def out_cells(tree):
    """Returns the conditions of the cells with the mark "out"."""
    return marked_cells(tree, "out")


def tree_expression(tree):
    """Returns the expression of the tree."""
    if is_leaf(tree):
        return ("full",) if tree == "in" else ("empty",)
    plane, front, back = tree
    return (
        "join",
        ("meet", ("half", plane, 1), tree_expression(front)),
        ("meet", ("half", plane, -1), tree_expression(back)),
    )


def read_tree(tree, point):
    """Returns "in", "out" or "on": both parts of a node are read if its plane passes through the point."""
    if is_leaf(tree):
        return tree
    plane, front, back = tree
    side = side_of(plane, point)
    if side > 0:
        return read_tree(front, point)
    if side < 0:
        return read_tree(back, point)
    reading = read_tree(front, point)
    return reading if reading == read_tree(back, point) else "on"


def is_reduced_below(tree, conditions):
    """True if each plane of a part of a tree that has these path conditions cuts the cell of its node."""
    if is_leaf(tree):
        return True
    plane, front, back = tree
    if not has_point(conditions + [(plane, 0)]):
        return False
    return is_reduced_below(front, conditions + [(plane, 1)]) and is_reduced_below(back, conditions + [(plane, -1)])


def is_reduced(tree):
    """True if the plane of each node cuts the open cell of the node."""
    return is_reduced_below(tree, [])


def cell_points(tree):
    """Returns a point of each cell of a reduced tree, in the order of the cells."""
    return [common_point(conditions)[1] for conditions, mark in cells(tree)]


def tree_rows(tree, level):
    """Returns the rows of everypoint.outlines for a part of a tree that lies this many steps down."""
    if is_leaf(tree):
        return [(level, tree)]
    (a, b, c, d), front, back = tree
    return [(level, f"cut {a} {b} {c} {d}")] + tree_rows(front, level + 1) + tree_rows(back, level + 1)


def tree_text(tree):
    """Returns the text of the tree."""
    return outline_text(tree_rows(tree, 0))


def read_tree_words(words, line):
    """Returns the mark or plane for which the words of a line stand, and the number of its parts."""
    word = words[0]
    if word == "cut":
        plane = read_plane(words, line, 2)
        words_end(words, line, 5)
        return plane, 2
    if word not in MARKS:
        raise TextFault(line, 1)
    words_end(words, line, 1)
    return word, 0


def check_outline(rows):
    """Raises TooLarge if the tree of the rows goes beyond a limit."""
    planes = [node for level, node, parts in rows if parts > 0]
    if max([level for level, node, parts in rows]) > MOST_TREE_DEPTH:
        raise TooLarge("depth")
    if len(set(planes)) > MOST_PLANES:
        raise TooLarge("planes")
    if len(planes) > MOST_NODES:
        raise TooLarge("nodes")


def parse_tree(text):
    """Returns the tree whose text it is."""
    rows = parse_outline(text, read_tree_words)
    check_outline(rows)
    # From the last row up, the parts of a node are whole before it, its front part on top.
    waiting = []
    for level, node, parts in reversed(rows):
        if parts == 0:
            waiting.append(node)
        else:
            front = waiting.pop()
            back = waiting.pop()
            waiting.append((node, front, back))
    return waiting[0]
