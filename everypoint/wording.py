"""Texts of expressions: one line for each node."""

from everypoint.errors import TextFault, TooLarge
from everypoint.expressions import MOST_SIZE, check_expression, parts_of
from everypoint.outlines import outline_text, parse_outline, read_plane, words_end
from everypoint.ratios import ratio_text, read_ratio, sign
from everypoint.vectors import triple

SIDE_WORDS = {1: "+", -1: "-"}
SIDES = {"+": 1, "-": -1}
PART_COUNTS = {"empty": 0, "full": 0, "outside": 1, "join": 2, "meet": 2, "take": 2}


def node_words(expression):
    """Returns the words of the line of an expression's own node, joined."""
    word = expression[0]
    if word == "half":
        a, b, c, d = expression[1]
        return f"half {a} {b} {c} {d} {SIDE_WORDS[expression[2]]}"
    if word == "move":
        rows, shift = expression[1]
        ratios = [x for row in rows + (shift,) for x in row]
        return " ".join(["move", *[ratio_text(x) for x in ratios]])
    return word


def expression_rows(expression, level):
    """Returns the rows of everypoint.outlines for a node that lies this many steps down."""
    below = [row for part in parts_of(expression) for row in expression_rows(part, level + 1)]
    return [(level, node_words(expression)), *below]


def expression_text(expression):
    """Returns the text of the expression."""
    return outline_text(expression_rows(expression, 0))


def read_ratios(words, line, place, many):
    """Returns the ratios of this many words, the first of which stands at the place."""
    found = []
    for at in range(place - 1, place - 1 + many):
        x = read_ratio(words[at]) if at < len(words) else None
        if x is None:
            raise TextFault(line, at + 1)
        found.append(x)
    return found


def read_move(words, line):
    """Returns the move of the words of a line: nine for the matrix, which are judged first, and three."""
    parts = read_ratios(words, line, 2, 9)
    rows = (tuple(parts[:3]), tuple(parts[3:6]), tuple(parts[6:]))
    if sign(triple(*rows)) == 0:
        raise TextFault(line, 2)
    return (rows, tuple(read_ratios(words, line, 11, 3)))


def read_half(words, line):
    """Returns the half node of the words of a line."""
    plane = read_plane(words, line, 2)
    if len(words) < 6 or words[5] not in SIDES:
        raise TextFault(line, 6)
    return ("half", plane, SIDES[words[5]])


def read_expression_words(words, line):
    """Returns a node without its parts, for the words of a line, and the number of its parts."""
    word = words[0]
    if word == "half":
        node, many, parts = read_half(words, line), 6, 0
    elif word == "move":
        node, many, parts = ("move", read_move(words, line)), 13, 1
    elif word in PART_COUNTS:
        node, many, parts = (word,), 1, PART_COUNTS[word]
    else:
        raise TextFault(line, 1)
    words_end(words, line, many)
    return node, parts


def parse_expression(text):
    """Returns the expression whose text it is."""
    rows = parse_outline(text, read_expression_words)
    # Counted before the nodes are put together, so that no deeply nested value is walked through.
    if len(rows) > MOST_SIZE:
        raise TooLarge("size")
    waiting = []
    for _, node, many in reversed(rows):
        # From the last row up, the parts of a node are whole before it, the first part on top.
        parts = [waiting.pop() for _ in range(many)]
        waiting.append(node + tuple(parts))
    check_expression(waiting[0])
    return waiting[0]
