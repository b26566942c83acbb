"""Expressions of solids: nested tuples of half-spaces, deeds on them, and moves."""

from everypoint.errors import BadPath, TooLarge
from everypoint.moves import is_move, moved_half
from everypoint.planes import is_half

MOST_SIZE = 64
MOST_DEPTH = 16
MOST_PLANES = 12

LEAVES = ("empty", "full")
DEEDS = ("join", "meet", "take")


def is_expression(value):
    """True if the value is an expression, whatever its size."""
    if not isinstance(value, tuple) or not value:
        return False
    word = value[0]
    many = len(value)
    if word in LEAVES:
        return many == 1
    if word == "half":
        return is_half(value[1:])
    if word in DEEDS:
        return many == 3 and is_expression(value[1]) and is_expression(value[2])
    if word == "outside":
        return many == 2 and is_expression(value[1])
    return word == "move" and many == 3 and is_move(value[1]) and is_expression(value[2])


def parts_of(expression):
    """Returns the tuple of the parts of an expression: at most two, and they stand at its end."""
    word = expression[0]
    if word in DEEDS or word == "outside":
        return expression[1:]
    if word == "move":
        return expression[2:]
    return ()


def nodes_of(expression):
    """Returns the nodes, each before those of its parts."""
    return [expression] + [node for part in parts_of(expression) for node in nodes_of(part)]


def size(expression):
    """Returns the number of nodes."""
    return len(nodes_of(expression))


def depth(expression):
    """Returns 1 for an expression without parts, else one more than the greatest depth of its parts."""
    return 1 + max([depth(part) for part in parts_of(expression)], default=0)


def moved_through(half, moves):
    """Returns the half taken through the moves of a tuple, the first one first."""
    for move in moves:
        half = moved_half(move, half)
    return half


def unmoved(expression, around):
    """Returns the expression without moves, where around holds the moves around it, innermost first."""
    word = expression[0]
    if word == "half":
        return ("half",) + moved_through(expression[1:], around)
    if word == "move":
        return unmoved(expression[2], (expression[1],) + around)
    return (word,) + tuple([unmoved(part, around) for part in parts_of(expression)])


def without_moves(expression):
    """Returns the expression with its moved halves in place of the halves, and without move nodes."""
    return unmoved(expression, ())


def halves_of(expression):
    """Returns the halves, left to right, moved, with duplicates."""
    return [node[1:] for node in nodes_of(without_moves(expression)) if node[0] == "half"]


def planes_of(expression):
    """Returns the planes, ascending, without duplicates."""
    return sorted({half[0] for half in halves_of(expression)})


def check_expression(expression):
    """Raises TooLarge if the expression goes beyond a limit."""
    if size(expression) > MOST_SIZE:
        raise TooLarge("size")
    if depth(expression) > MOST_DEPTH:
        raise TooLarge("depth")
    if len(planes_of(expression)) > MOST_PLANES:
        raise TooLarge("planes")


def truth(expression, sides):
    """Returns what an expression without move nodes is when each plane has its side in the dict."""
    word = expression[0]
    if word == "half":
        return sides[expression[1]] == expression[2]
    if word == "join":
        return truth(expression[1], sides) or truth(expression[2], sides)
    if word == "meet":
        return truth(expression[1], sides) and truth(expression[2], sides)
    if word == "take":
        return truth(expression[1], sides) and not truth(expression[2], sides)
    if word == "outside":
        return not truth(expression[1], sides)
    return word == "full"


def part_at(expression, path):
    """Returns the node to which the path leads."""
    node = expression
    for step in path:
        parts = parts_of(node)
        if step < 0 or step >= len(parts):
            raise BadPath()
        node = parts[step]
    return node


def replace_at(expression, path, part):
    """Returns the expression with the part in the place of the node to which the path leads."""
    if not path:
        return part
    step = path[0]
    parts = parts_of(expression)
    if step < 0 or step >= len(parts):
        raise BadPath()
    place = len(expression) - len(parts) + step
    changed = replace_at(parts[step], path[1:], part)
    return expression[:place] + (changed,) + expression[place + 1:]
