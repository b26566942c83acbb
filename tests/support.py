"""What the tests share: checks of errors, of plain values and of lists inside of values."""

import unittest

from everypoint import errors

ERROR_NAMES = (
    "TextFault", "RunFault", "BadRow", "ZeroDenominator", "NoNormal", "InLine", "Flat", "BadPolygon",
    "Singular", "NoDirection", "BadPath", "TooLarge", "BadOrder", "Unbounded", "NoParting", "NothingToUndo",
)

# The greatest integers that a caller makes up have 40 digits.
BIG = 10 ** 40 - 1

X0 = (1, 0, 0, 0)
Y0 = (0, 1, 0, 0)
Z0 = (0, 0, 1, 0)


def plane_at(axis, place):
    """The plane of the points whose part at the axis is the integer place."""
    normal = [0, 0, 0]
    normal[axis] = 1
    return tuple(normal) + (-place,)


def point(x, y, z):
    """The point of three integers or tuples that are ratios."""
    return tuple((part, 1) if isinstance(part, int) else part for part in (x, y, z))


PLAIN_VALUES = [
    None, True, False, 0, 1, -1, 2, BIG, -BIG, "", "in", "out", "on", "a", "\u00e9", "\u0661", "\n", "half",
    [], (), {}, [[]], [()], ((),), {"a": 1}, {1: []}, {(1, 2): "x"}, [None], (None,), ("in",), ["in", "out"],
    (1, 2), (True, 1), (1, True), (1, 0), (2, 4), (-1, 2), [1, 2], (1, 2, 3), (0, 0, 0, 0), (0, 0, 1, 0),
    (0, 0, True, 0), [0, 0, 1, 0], ((0, 0, 1, 0), 1), ((0, 0, 1, 0), True), ((0, 0, 1, 0), 3),
    [((0, 0, 1, 0), 1)], [((0, 0, 1, 0), 3)], ((1, 1), (0, 1), (0, 1)), [(1, 1), (0, 1), (0, 1)],
    (((1, 1), (0, 1), (0, 1)), ((1, 1), (0, 1), (0, 1))), ("empty",), ("full", 1), ([],), ({},), (("empty",),),
    ("half", (0, 0, 1, 0), 1), ("join", ("full",)), ("move", (), ("full",)), ("move",), ("outside",),
    ((0, 0, 1, 0), "in", "out"), ((0, 0, 1, 0), "in", "on"), ((0, 0, 1, 0), ["in"], "out"), [[(1, 1)]],
    "\ud800", "in\n", ("join", [], {}), ((0, 0, 1, 0), {}, []), {None: None}, [[[[[]]]]],
]


def nested(depth, inner, wrap):
    """The inner value, wrapped this many times."""
    value = inner
    for _ in range(depth):
        value = wrap(value)
    return value


DEEP_VALUES = [
    nested(59, [], lambda value: [value]),
    nested(59, (), lambda value: (value,)),
    nested(59, {}, lambda value: {"a": value}),
    nested(58, ("full",), lambda value: ("outside", value)),
    nested(58, ("full",), lambda value: ("join", value, ("empty",))),
    nested(58, "in", lambda value: ((0, 0, 1, 0), value, "out")),
    nested(17, ("full",), lambda value: ("join", value, value)),
    nested(17, "in", lambda value: ((0, 0, 1, 0), value, value)),
    [(1, 1)] * 100000,
    [((0, 0, 1, 0), 1)] * 100000,
]


def lists_in(value):
    """All lists that stand in a value, at each of their places."""
    if isinstance(value, list):
        return [value] + [found for member in value for found in lists_in(member)]
    if isinstance(value, tuple):
        return [found for member in value for found in lists_in(member)]
    return []


def kinds_of(value):
    """The value with the kind of each of its members beside it, so that 1 and True are unlike."""
    if isinstance(value, (list, tuple)):
        return (type(value), [kinds_of(member) for member in value])
    return (type(value), value)


class SpaceTest(unittest.TestCase):
    """A test case with the checks that the general rules ask for."""

    def assert_error(self, name, call, *arguments, **told):
        """The call raises exactly the error class of this name; told holds its attributes."""
        with self.assertRaises(ValueError) as caught:
            call(*arguments)
        error = caught.exception
        self.assertIs(type(error), getattr(errors, name), arguments)
        self.assertIsInstance(error, errors.SpaceError)
        for other in ERROR_NAMES:
            if other != name:
                self.assertNotIsInstance(error, getattr(errors, other))
        for attribute, expected in told.items():
            self.assertEqual(kinds_of(getattr(error, attribute)), kinds_of(expected), arguments)

    def assert_same(self, found, expected, message=None):
        """Equal, also in the kinds at every place."""
        self.assertEqual(kinds_of(found), kinds_of(expected), message)

    def assert_takes_plain_values(self, call, *before, right=()):
        """The call, with a plain value last, is True for those that are right and False for all others."""
        for value in PLAIN_VALUES + DEEP_VALUES:
            wanted = any(value == member and kinds_of(value) == kinds_of(member) for member in right)
            self.assertIs(call(*before, value), wanted, repr(value)[:200])
