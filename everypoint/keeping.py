"""Kept trees: one tree for all expressions that read alike. Deeds on them, and comparing them."""

from everypoint.cutting import cells_met
from everypoint.errors import TooLarge
from everypoint.expressions import MOST_PLANES, check_expression, planes_of
from everypoint.moves import moved_half
from everypoint.reading import truth_rows
from everypoint.systems import common_point, sign_rows
from everypoint.trees import MOST_NODES, in_cells, is_leaf, node_count, out_cells, tree_planes


def flipped(signs, at):
    """Returns the signs with the other sign at one place."""
    return signs[:at] + (-signs[at],) + signs[at + 1:]


def shows(rows, at):
    """True if two of the rows differ in the sign at this place alone and have unlike truths."""
    return any([told != rows.get(flipped(signs, at), told) for signs, told in rows.items()])


def rows_with(rows, at, side):
    """Returns the rows with this sign at this place."""
    return {signs: told for signs, told in rows.items() if signs[at] == side}


def tree_of_rows(planes, rows, first=0):
    """Returns the tree by the order of the planes of a dict of truth rows, in which none before the first one shows.

    The dict has the truth for the signs of the planes; if these ascend, the tree is the kept tree.
    Rows may be left out if the same planes show without them, and if some row is left for each leaf.
    """
    for at in range(first, len(planes)):
        if shows(rows, at):
            # A plane that does not show in the rows shows in no part of them, so none is looked at twice.
            front = tree_of_rows(planes, rows_with(rows, at, 1), at + 1)
            return (planes[at], front, tree_of_rows(planes, rows_with(rows, at, -1), at + 1))
    return "in" if all(list(rows.values())) else "out"


def small_enough(tree):
    """Returns the tree, if it has no more nodes than a kept tree may have."""
    if node_count(tree) > MOST_NODES:
        raise TooLarge("nodes")
    return tree


def kept_tree(expression):
    """Returns the kept tree of the expression."""
    check_expression(expression)
    return small_enough(tree_of_rows(planes_of(expression), dict(truth_rows(expression))))


def mark_at(tree, sides):
    """Returns the mark of the leaf to which the sides of the planes lead."""
    while not is_leaf(tree):
        plane, front, back = tree
        tree = front if sides[plane] == 1 else back
    return tree


def keep_by(tree, planes):
    """Returns the tree by this order of its planes for the expression of any tree."""
    # The expression of the tree is true where the sides of its planes lead to a leaf "in".
    rows = {signs: mark_at(tree, dict(zip(planes, signs))) == "in" for signs in sign_rows(planes)}
    return small_enough(tree_of_rows(planes, rows))


def keep(tree):
    """Returns the kept tree of the expression of any tree."""
    return keep_by(tree, tree_planes(tree))


def with_leaves(tree, inner, outer):
    """Returns the tree with the trees inner and outer in the place of its leaves "in" and "out"."""
    if is_leaf(tree):
        return inner if tree == "in" else outer
    plane, front, back = tree
    return (plane, with_leaves(front, inner, outer), with_leaves(back, inner, outer))


def check_planes(first, second):
    """Raises TooLarge if two trees have too many planes together."""
    if len(set(tree_planes(first) + tree_planes(second))) > MOST_PLANES:
        raise TooLarge("planes")


def join_trees(first, second):
    """Returns the kept tree of the join of two kept trees."""
    check_planes(first, second)
    return keep(with_leaves(first, "in", second))


def meet_trees(first, second):
    """Returns the kept tree of the meet of two kept trees."""
    check_planes(first, second)
    return keep(with_leaves(first, second, "out"))


def take_trees(first, second):
    """Returns the kept tree of the first kept tree without the second."""
    check_planes(first, second)
    return keep(with_leaves(first, outside_tree(second), "out"))


def outside_tree(tree):
    """Returns the kept tree of the outside of a kept tree."""
    return with_leaves(tree, "out", "in")


def moved_nodes(move, tree):
    """Returns the tree with its nodes moved in place."""
    if is_leaf(tree):
        return tree
    plane, side = moved_half(move, (tree[0], 1))
    front = moved_nodes(move, tree[1])
    back = moved_nodes(move, tree[2])
    return (plane, front, back) if side == 1 else (plane, back, front)


def move_tree(move, tree):
    """Returns the kept tree of the moved solid of a kept tree."""
    return keep(moved_nodes(move, tree))


def point_of_first(listed):
    """Returns a common point of the first cell of a list, or None if there is none."""
    return common_point(listed[0])[1] if listed else None


def inner_point(tree):
    """Returns a point that reads "in" for the kept tree, or None."""
    return point_of_first(in_cells(tree))


def outer_point(tree):
    """Returns a point that reads "out" for the kept tree, or None."""
    return point_of_first(out_cells(tree))


def is_empty(tree):
    """True if the kept tree is "out"."""
    return tree == "out"


def is_full(tree):
    """True if the kept tree is "in"."""
    return tree == "in"


def same_solid(first, second):
    """True if the two kept trees have the same solid."""
    return first == second


def within(first, second):
    """True if no point reads "in" for the first and "out" for the second kept tree."""
    return outlying_point(first, second) is None


def difference_point(first, second):
    """Returns a point that reads "in" for one of two kept trees and "out" for the other, or None."""
    return outlying_point(first, second) or outlying_point(second, first)


def outlying_point(first, second):
    """Returns a point that reads "in" for the first and "out" for the second kept tree, or None."""
    # Such a point has a neighbourhood that is inside of the first and outside of the second solid.
    # So an open cell of the one has a common point with an open cell of the other, or there is none.
    for conditions in in_cells(first):
        start = common_point(conditions)[1]
        for met in cells_met(second, 0, conditions, start):
            if met[2] == "out":
                return met[3]
    return None
