"""Scripts: statements of words, one on each line."""

from everypoint.errors import TextFault
from everypoint.planes import is_plane
from everypoint.ratios import is_integer_word, is_name, read_ratio

MOST_STATEMENTS = 40

# A word in capitals stands for words of its kind: NEW, A and B for names, V for three R, PLANE for four integers.
FORMS = (
    "make NEW empty", "make NEW full", "make NEW half PLANE SIDE", "make NEW box V V", "make NEW wedge V V",
    "make NEW tetra V V V V", "make NEW hull V V V V", "make NEW hull V V V V V", "make NEW hull V V V V V V",
    "make NEW hull V V V V V V V", "make NEW hull V V V V V V V V", "make NEW prism R R PAIR PAIR PAIR",
    "make NEW prism R R PAIR PAIR PAIR PAIR", "make NEW prism R R PAIR PAIR PAIR PAIR PAIR",
    "make NEW prism R R PAIR PAIR PAIR PAIR PAIR PAIR", "make NEW prism R R PAIR PAIR PAIR PAIR PAIR PAIR PAIR",
    "make NEW prism R R PAIR PAIR PAIR PAIR PAIR PAIR PAIR PAIR",
    "move NEW A shift V", "move NEW A scale V", "move NEW A mirror AXIS", "move NEW A turn AXIS TIMES",
    "join NEW A B", "cut NEW A B", "take NEW A B", "outside NEW A", "each NEW A COUNT V",
    "ask at A V", "ask hit A V V", "ask volume A", "ask bounded A", "ask empty A", "ask convex A", "ask pieces A",
    "ask hollows A", "ask same A B", "ask within A B", "ask relation A B",
    "draw A pinhole WIDTH HEIGHT V V V V", "draw A straight WIDTH HEIGHT V V V V",
    "paper differ A B V", "paper outlying A B V", "paper bent A V V V", "paper far A V V",
    "paper parted A B PLANE SIDE",
)
GROUPS = {
    "V": ("R", "R", "R"), "PAIR": ("R", "R"), "PLANE": ("INTEGER", "INTEGER", "INTEGER", "LAST"),
    "WIDTH": ("LENGTH",), "HEIGHT": ("LENGTH",),
}
CHOICES = {
    "SIDE": ("+", "-"), "AXIS": ("x", "y", "z"), "TIMES": ("1", "2", "3"), "COUNT": ("1", "2", "3", "4", "5", "6"),
    "LENGTH": ("1", "2", "3", "4", "5", "6", "7", "8", "9", "10", "11", "12"),
}
NAMES = ("NEW", "A", "B")


def slots_of(form):
    """Returns the slots of a form, one for each word."""
    return [slot for word in form.split(" ") for slot in GROUPS.get(word, (word,))]


def fits_slot(slot, word):
    """True if the word, judged by itself, may stand in the slot."""
    if slot in NAMES:
        return is_name(word)
    if slot == "R":
        return read_ratio(word) is not None
    if slot in ("INTEGER", "LAST"):
        return is_integer_word(word)
    return word in CHOICES.get(slot, (slot,))


def check_group(words, line, at):
    """Raises the fault of four integers that are no plane, of which the last one stands at this index."""
    if not is_plane(tuple([int(word) for word in words[at - 3:at + 1]])):
        raise TextFault(line, at - 2)


def read_statement(content, line):
    """Returns the statement of a line and the list of its slots."""
    words = content.split(" ")
    left = [slots_of(form) for form in FORMS]
    for at, word in enumerate(words):
        left = [slots for slots in left if at < len(slots) and fits_slot(slots[at], word)]
        if not left:
            raise TextFault(line, at + 1)
        if left[0][at] == "LAST":
            check_group(words, line, at)
    for slots in left:
        if len(slots) == len(words):
            return tuple(words), slots
    raise TextFault(line, len(words) + 1)


def read_script(text):
    """Returns a list of tuples (statement, slots), one for each line of a script."""
    lines = text.split("\n") if text else []
    found = []
    for line, content in enumerate(lines, start=1):
        if line > MOST_STATEMENTS:
            raise TextFault(line, 1)
        found.append(read_statement(content, line))
    return found


def parse_script(text):
    """Returns the statements of a script, tuples of words."""
    return [words for words, slots in read_script(text)]


def script_text(statements):
    """Returns the text of a list of statements."""
    return "\n".join([" ".join(words) for words in statements])
