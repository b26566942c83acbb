"""The class Model, an expression that changes with its kept trees, and trees by other orders of the planes."""

from everypoint.errors import BadOrder, BadPath, NothingToUndo, TooLarge
from everypoint.expressions import check_expression, parts_of, replace_at, size
from everypoint.keeping import join_trees, keep_by, kept_tree, meet_trees, move_tree, outside_tree, take_trees
from everypoint.planes import is_plane
from everypoint.trees import node_count, tree_planes

MOST_ORDERED = 4


def tree_from(expression, built):
    """Returns the kept tree of a node, where the trees of its parts have been built."""
    word = expression[0]
    if word == "join":
        return join_trees(built[0][0], built[1][0])
    if word == "meet":
        return meet_trees(built[0][0], built[1][0])
    if word == "take":
        return take_trees(built[0][0], built[1][0])
    if word == "outside":
        return outside_tree(built[0][0])
    if word == "move":
        return move_tree(expression[1], built[0][0])
    return kept_tree(expression)


def trees_of(expression):
    """Returns the tuple (kept tree of the expression, tuple of such tuples for its parts)."""
    built = tuple([trees_of(part) for part in parts_of(expression)])
    return (tree_from(expression, built), built)


def trees_along(expression, trees, path):
    """Returns what trees_of does, where the trees were right before the node at the path was changed."""
    if not path:
        return trees_of(expression)
    step = path[0]
    changed = trees_along(parts_of(expression)[step], trees[1][step], path[1:])
    built = trees[1][:step] + (changed,) + trees[1][step + 1:]
    return (tree_from(expression, built), built)


class Model:
    """An expression with the kept tree of each of its nodes, in the node's own space."""

    def __init__(self, expression):
        check_expression(expression)
        self._expression = expression
        self._trees = trees_of(expression)
        self._rebuilt = size(expression)
        self._past = []

    @property
    def expression(self):
        """The expression."""
        return self._expression

    @property
    def tree(self):
        """The kept tree of the whole."""
        return self._trees[0]

    @property
    def rebuilt(self):
        """The number of trees that the last step built."""
        return self._rebuilt

    @property
    def changes(self):
        """The number of changes that can be taken back."""
        return len(self._past)

    def change(self, path, part):
        """Puts the part in the place of the node at the path and returns the new kept tree of the whole."""
        expression = replace_at(self._expression, path, part)
        check_expression(expression)
        trees = trees_along(expression, self._trees, path)
        # Nothing is kept before all trees are built, since each of them may be refused.
        self._past.append((self._expression, self._trees))
        self._expression = expression
        self._trees = trees
        self._rebuilt = size(part) + len(path)
        return trees[0]

    def back(self):
        """Takes the latest change back and returns the kept tree of the whole."""
        if not self._past:
            raise NothingToUndo()
        expression, trees = self._past.pop()
        self._expression = expression
        self._trees = trees
        self._rebuilt = 0
        return trees[0]

    def part_tree(self, path):
        """Returns the kept tree of the node at the path, in the node's own space."""
        trees = self._trees
        for step in path:
            if step < 0 or step >= len(trees[1]):
                raise BadPath()
            trees = trees[1][step]
        return trees[0]


def is_order_of(planes, value):
    """True if the value is a list that holds each of the planes, which ascend, exactly once."""
    if not isinstance(value, list) or len(value) != len(planes):
        return False
    return all([is_plane(member) for member in value]) and sorted(value) == planes


def is_order(expression, value):
    """True if the value is an order for the expression."""
    return is_order_of(tree_planes(kept_tree(expression)), value)


def tree_by_order(expression, order):
    """Returns the tree of the expression by this order of the planes of its kept tree."""
    tree = kept_tree(expression)
    if not is_order_of(tree_planes(tree), order):
        raise BadOrder()
    return keep_by(tree, order)


def fewest_planes(expression):
    """Returns the number of planes of the kept tree."""
    return len(tree_planes(kept_tree(expression)))


def orders_of(planes):
    """Returns the orders of a list of planes; if these ascend, so do the orders."""
    if not planes:
        return [[]]
    return [
        [plane] + rest for plane in planes
        for rest in orders_of([other for other in planes if other != plane])
    ]


def fewest_nodes(expression):
    """Returns (count, order): the least number of nodes, and the least order whose tree has it."""
    tree = kept_tree(expression)
    planes = tree_planes(tree)
    if len(planes) > MOST_ORDERED:
        raise TooLarge("orders")
    best = None
    for order in orders_of(planes):
        count = node_count(keep_by(tree, order))
        if best is None or count < best[0]:
            best = (count, order)
    return best
