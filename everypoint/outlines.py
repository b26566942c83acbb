"""Texts with one line for each node, in which each step down is told by two spaces more."""

from everypoint.errors import TextFault
from everypoint.planes import is_plane
from everypoint.ratios import is_integer_word


def line_words(content, line, level):
    """Returns the words of a line whose node lies this many steps down."""
    bare = content.lstrip(" ")
    if len(content) - len(bare) != 2 * level:
        raise TextFault(line, 0)
    return bare.split(" ")


def words_end(words, line, many):
    """Raises the fault of the first word behind this many words, if there is one."""
    if len(words) > many:
        raise TextFault(line, many + 1)


def read_plane(words, line, place):
    """Returns the plane whose four words begin at the place."""
    numbers = []
    for at in range(place - 1, place + 3):
        # A missing word has the place behind the last word, and that is its own place.
        if at >= len(words) or not is_integer_word(words[at]):
            raise TextFault(line, at + 1)
        numbers.append(int(words[at]))
    plane = tuple(numbers)
    if not is_plane(plane):
        raise TextFault(line, place)
    return plane


def parse_outline(text, read_node):
    """Returns a list of tuples (level, node, parts), one for each line of the text.

    read_node takes the words and the number of a line and returns (node, parts), the node
    that they stand for and the number of its parts, or raises their fault.
    """
    lines = text.split("\n")
    found = []
    waiting = [0]
    for line, content in enumerate(lines, start=1):
        if not waiting:
            raise TextFault(line, 0)
        level = waiting.pop()
        node, parts = read_node(line_words(content, line, level), line)
        found.append((level, node, parts))
        waiting.extend([level + 1] * parts)
    if waiting:
        raise TextFault(len(lines) + 1, 0)
    return found


def outline_text(rows):
    """Returns the text of a list of tuples (level, words), each of whose words are one text."""
    return "\n".join([" " * (2 * level) + words for level, words in rows])
