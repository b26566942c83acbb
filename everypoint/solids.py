"""The class Solid: an expression with operators for its deeds."""

from everypoint.expressions import check_expression, halves_of, nodes_of, planes_of
from everypoint.keeping import kept_tree
from everypoint.reading import read_expression
from everypoint.shapes import box
from everypoint.wording import expression_text, parse_expression


class Solid:
    """A solid, told by an expression that is not too large."""

    def __init__(self, expression):
        check_expression(expression)
        self._expression = expression
        self._halves = tuple(halves_of(expression))

    @property
    def expression(self):
        """The expression."""
        return self._expression

    @property
    def planes(self):
        """The list of the planes of the expression, ascending, without duplicates."""
        return planes_of(self._expression)

    def __add__(self, other):
        """The join."""
        return Solid(("join", self._expression, other._expression))

    def __mul__(self, other):
        """The meet."""
        return Solid(("meet", self._expression, other._expression))

    def __sub__(self, other):
        """The first without the second."""
        return Solid(("take", self._expression, other._expression))

    def __neg__(self):
        """The outside."""
        return Solid(("outside", self._expression))

    def __eq__(self, other):
        """True for a solid with an equal expression."""
        return isinstance(other, Solid) and self._expression == other._expression

    def __len__(self):
        """The size of the expression."""
        return len(nodes_of(self._expression))

    def __iter__(self):
        """Goes through the halves of the expression, left to right, with duplicates."""
        return iter(self._halves)

    def __str__(self):
        """The text of the expression."""
        return str(expression_text(self._expression))

    def moved(self, move):
        """Returns the solid moved by the move."""
        return Solid(("move", move, self._expression))

    def reading(self, point):
        """Returns the plain reading at the point."""
        return read_expression(self._expression, point)

    def kept(self):
        """Returns the kept tree."""
        return kept_tree(self._expression)

    @staticmethod
    def of_box(low, high):
        """Returns the solid of the box of two points."""
        return Solid(box(low, high))

    @classmethod
    def parsed(cls, text):
        """Returns the solid of the text of an expression."""
        return cls(parse_expression(text))
