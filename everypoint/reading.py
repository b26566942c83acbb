"""The plain reading of an expression, and its truth rows."""

from everypoint.expressions import planes_of, truth, without_moves
from everypoint.planes import side_of
from everypoint.systems import sign_rows


def reading_of(told):
    """Returns the reading of a point near which there are cones of these truths."""
    if all(told):
        return "in"
    return "on" if any(told) else "out"


def read_expression(expression, point):
    """Returns the plain reading of the expression at the point."""
    bare = without_moves(expression)
    sides = {plane: side_of(plane, point) for plane in planes_of(bare)}
    through = [plane for plane, side in sides.items() if side == 0]
    told = []
    for signs in sign_rows(through):
        for plane, side in zip(through, signs):
            sides[plane] = side
        told.append(truth(bare, sides))
    return reading_of(told)


def truth_rows(expression):
    """Returns the truth rows (signs, truth) of the expression."""
    bare = without_moves(expression)
    planes = planes_of(bare)
    return [(signs, truth(bare, dict(zip(planes, signs)))) for signs in sign_rows(planes)]
