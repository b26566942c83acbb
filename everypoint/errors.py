"""The errors of the program, in the order in which they take precedence."""


class SpaceError(ValueError):
    """Stands above all errors of the program."""


class TextFault(SpaceError):
    """A text is not in its form; the place is that of a word or character, or 0 for a whole line."""

    def __init__(self, line, place):
        self.line = line
        self.place = place


class RunFault(SpaceError):
    """A statement cannot be run."""

    def __init__(self, line, place, why):
        self.line = line
        self.place = place
        self.why = why


class BadRow(SpaceError):
    """A row is not right in its book."""

    def __init__(self, number):
        self.number = number


class ZeroDenominator(SpaceError):
    """A ratio would have the denominator zero."""


class NoNormal(SpaceError):
    """A plane would have the zero vector as its normal."""


class InLine(SpaceError):
    """Three points that should make up a plane lie on one line."""


class Flat(SpaceError):
    """A shape would have no inside."""


class BadPolygon(SpaceError):
    """The corners do not go around a convex polygon counterclockwise."""


class Singular(SpaceError):
    """A move would have the determinant zero."""


class NoDirection(SpaceError):
    """A direction is the zero vector."""


class BadPath(SpaceError):
    """A path leads to no node of its expression."""


class TooLarge(SpaceError):
    """A limit is passed; what tells which one."""

    def __init__(self, what):
        self.what = what


class BadOrder(SpaceError):
    """A list of planes is no order for its expression."""


class Unbounded(SpaceError):
    """A cell, patch, face or solid reaches beyond every box."""


class NoParting(SpaceError):
    """No half is told that parts two solids."""

    def __init__(self, why):
        self.why = why


class NothingToUndo(SpaceError):
    """There is no step that could be taken back."""
