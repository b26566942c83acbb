"""Running statements: solids by their names, and answers to what is asked of them."""

from everypoint.contact import is_parting, relation
from everypoint.errors import BadPolygon, Flat, NoDirection, RunFault, Singular, TooLarge
from everypoint.keeping import is_empty, kept_tree, same_solid, within
from everypoint.moves import mirror_axis, quarter_turn, scale_by, shift_by
from everypoint.pictures import picture, picture_text
from everypoint.pieces import convex_witness, hollows, is_bend, pieces
from everypoint.polygons import is_bounded
from everypoint.ratios import parse_ratio, ratio_text
from everypoint.rays import first_hit, spans
from everypoint.scripts import read_script, read_statement
from everypoint.shapes import box, copies, hull, prism, tetrahedron, wedge
from everypoint.trees import read_tree
from everypoint.vectors import is_zero
from everypoint.volumes import volume_by_cells

MAKING = ("make", "move", "join", "cut", "take", "outside", "each")
DEEDS = {"join": "join", "cut": "meet", "take": "take"}
SIDES = {"+": 1, "-": -1}
AXES = {"x": 0, "y": 1, "z": 2}
FAR_SPANS = [((0, 1), "in", "in")]


def groups_of_ratios(words, many):
    """Returns the tuples of this many ratios that follow one another in a list of words."""
    ratios = [parse_ratio(word) for word in words]
    return [tuple(ratios[at:at + many]) for at in range(0, len(ratios), many)]


def points_of(words):
    """Returns the points or vectors of a list of words."""
    return groups_of_ratios(words, 3)


def half_of(words):
    """Returns the half of the words of a plane and a side."""
    return (tuple([int(word) for word in words[:4]]), SIDES[words[4]])


def made_shape(kind, words):
    """Returns the expression of a shape; the words are those behind its kind."""
    if kind == "half":
        return ("half",) + half_of(words)
    if kind == "prism":
        low, high = [parse_ratio(word) for word in words[:2]]
        return prism(groups_of_ratios(words[2:], 2), low, high)
    points = points_of(words)
    if kind == "box":
        return box(points[0], points[1])
    if kind == "wedge":
        return wedge(points[0], points[1])
    if kind == "tetra":
        return tetrahedron(points[0], points[1], points[2], points[3])
    if kind == "hull":
        return hull(points)
    return (kind,)


def made_move(kind, words):
    """Returns the move of the words behind its kind."""
    if kind == "mirror":
        return mirror_axis(AXES[words[0]])
    if kind == "turn":
        return quarter_turn(AXES[words[0]], int(words[1]))
    step = points_of(words)[0]
    return shift_by(step) if kind == "shift" else scale_by(step)


def made_expression(made, words):
    """Returns the expression that the statement gives its new name."""
    deed = words[0]
    if deed == "make":
        return made_shape(words[2], list(words[3:]))
    first = made[words[2]][0]
    if deed == "move":
        return ("move", made_move(words[3], list(words[4:])), first)
    if deed == "outside":
        return ("outside", first)
    if deed == "each":
        return copies(first, int(words[3]), step=points_of(words[4:])[0])
    return (DEEDS[deed], first, made[words[3]][0])


def yes_or_no(told):
    """Returns the word for True or False."""
    return "yes" if told else "no"


def hit_text(tree, words):
    """Returns the answer for the first hit of the ray of the words."""
    hit = first_hit(tree, tuple(points_of(words)))
    return "none" if hit is None else ratio_text(hit[0])


def asked_of_one(kind, tree, words):
    """Returns the answer to what is asked of one solid; the words are those behind its name."""
    if kind == "at":
        return read_tree(tree, points_of(words)[0])
    if kind == "hit":
        return hit_text(tree, words)
    if kind == "volume":
        return ratio_text(volume_by_cells(tree)) if is_bounded(tree) else "unbounded"
    if kind == "bounded":
        return yes_or_no(is_bounded(tree))
    if kind == "empty":
        return yes_or_no(is_empty(tree))
    if kind == "convex":
        return yes_or_no(convex_witness(tree) is None)
    return str(len(pieces(tree) if kind == "pieces" else hollows(tree)))


def asked_of_two(kind, first, second):
    """Returns the answer to what is asked of two solids."""
    if kind == "same":
        return yes_or_no(same_solid(first, second))
    if kind == "within":
        return yes_or_no(within(first, second))
    told = relation(first, second)
    return f"touch {told[1]}" if told[0] == "touch" else told[0]


def drawn(made, words):
    """Returns the answer of a draw statement."""
    camera = (words[2],) + tuple(points_of(words[5:]))
    listed = picture(made[words[1]][1], camera, int(words[3]), int(words[4]))
    return picture_text(listed).replace("\n", "/")


def answer_of(made, words):
    """Returns the answer of an ask or a draw statement."""
    if words[0] == "draw":
        return drawn(made, words)
    tree = made[words[2]][1]
    if words[1] in ("same", "within", "relation"):
        return asked_of_two(words[1], tree, made[words[3]][1])
    return asked_of_one(words[1], tree, list(words[3:]))


def is_far_ray(tree, ray):
    """True if the ray has a direction and all of its points read "in"."""
    return not is_zero(ray[1]) and spans(tree, ray) == FAR_SPANS


def is_right(made, words):
    """True if a paper is right."""
    kind = words[1]
    first = made[words[2]][1]
    if kind == "bent":
        return is_bend(first, tuple(points_of(words[3:])))
    if kind == "far":
        return is_far_ray(first, tuple(points_of(words[3:])))
    second = made[words[3]][1]
    if kind == "parted":
        return is_parting(first, second, half_of(words[4:]))
    point = points_of(words[4:])[0]
    readings = [read_tree(first, point), read_tree(second, point)]
    return readings == ["in", "out"] or (kind == "differ" and readings == ["out", "in"])


def check_names(made, words, slots, line):
    """Raises RunFault for the first name that is made twice or not at all."""
    for at, slot in enumerate(slots):
        if slot == "NEW" and words[at] in made:
            raise RunFault(line, at + 1, "taken")
        if slot in ("A", "B") and words[at] not in made:
            raise RunFault(line, at + 1, "unknown")


def outcome(made, words):
    """Returns (answer, thing) of a statement: its answer or None, and what it gives its new name or None."""
    if words[0] in MAKING:
        expression = made_expression(made, words)
        return None, (expression, kept_tree(expression))
    if words[0] == "paper":
        return None, None
    return answer_of(made, words), None


def worked_out(made, words, slots, line):
    """Returns the outcome of a statement, and changes nothing.

    The dict made has a tuple (expression, kept tree) for each name.
    """
    check_names(made, words, slots, line)
    try:
        answer, thing = outcome(made, words)
    except Flat:
        raise RunFault(line, 1, "flat") from None
    except BadPolygon:
        raise RunFault(line, 1, "polygon") from None
    except Singular:
        raise RunFault(line, 1, "singular") from None
    except NoDirection:
        raise RunFault(line, 1, "direction") from None
    except TooLarge:
        raise RunFault(line, 1, "large") from None
    if words[0] == "paper" and not is_right(made, words):
        raise RunFault(line, 1, "paper")
    return answer, thing


def made_of_name(made, name):
    """Returns the tuple (expression, kept tree) of a name, or raises RunFault."""
    if name not in made:
        raise RunFault(0, 0, "unknown")
    return made[name]


class Run:
    """The solids made so far, by their names."""

    def __init__(self):
        self._made = {}

    def take_step(self, words, slots, line):
        """Runs the statement of a line and returns its answer."""
        answer, thing = worked_out(self._made, words, slots, line)
        if thing is not None:
            self._made[words[1]] = thing
        return answer

    def step(self, line):
        """Runs a line and returns its answer, a text or None."""
        words, slots = read_statement(line, 1)
        return self.take_step(words, slots, 1)

    @property
    def names(self):
        """The list of the names made so far, ascending."""
        return sorted(list(self._made))

    def expression_of(self, name):
        """Returns the expression of a name."""
        return made_of_name(self._made, name)[0]

    def tree_of(self, name):
        """Returns the kept tree of a name."""
        return made_of_name(self._made, name)[1]


def run_script(text):
    """Returns the answers of the ask and draw statements of a script, run in a new Run."""
    run = Run()
    answers = []
    for line, (words, slots) in enumerate(read_script(text), start=1):
        answer = run.take_step(words, slots, line)
        if answer is not None:
            answers.append(answer)
    return answers
