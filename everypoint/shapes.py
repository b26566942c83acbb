"""Shapes as expressions: boxes, wedges, prisms, tetrahedra, hulls and others, and copies in a row."""

from everypoint.errors import BadPolygon, Flat
from everypoint.moves import shift_by
from everypoint.planes import half_through, make_half, opposite, parallel, plane_through, side_of
from everypoint.ratios import add, as_ratio, compare, divide, multiply, negate, ratio, sign, subtract
from everypoint.vectors import cross, dot, in_line, minus, scaled, sort_points, triple, vector


def put_together(word, parts):
    """Returns the expressions of a list that is not empty, put together by a word from left to right."""
    whole = parts[0]
    for part in parts[1:]:
        whole = (word, whole, part)
    return whole


def meet_all(parts):
    """Returns the meet of a list of expressions."""
    return put_together("meet", parts) if parts else ("full",)


def join_all(parts):
    """Returns the join of a list of expressions."""
    return put_together("join", parts) if parts else ("empty",)


def meet_of_halves(halves):
    """Returns the meet of the half nodes of a list of halves."""
    return meet_all([("half", plane, side) for plane, side in halves])


def above(axis, place):
    """Returns the half of the points whose part at the axis is above a number."""
    x, y, z = (int(axis == 0), int(axis == 1), int(axis == 2))
    return make_half(x, y, z, negate(as_ratio(place)))


def below(axis, place):
    """Returns the half of the points whose part at the axis is below a number."""
    return opposite(above(axis, place))


def check_order(low, high):
    """Raises Flat unless each part of the point low is less than that of the point high."""
    if any([compare(x, y) >= 0 for x, y in zip(low, high)]):
        raise Flat()


def box(low, high):
    """Returns the box of two points."""
    check_order(low, high)
    halves = []
    for axis in range(3):
        halves.extend([above(axis, low[axis]), below(axis, high[axis])])
    return meet_of_halves(halves)


def wedge(low, high):
    """Returns the wedge between two points."""
    check_order(low, high)
    x = divide((-1, 1), subtract(high[0], low[0]))
    z = divide((-1, 1), subtract(high[2], low[2]))
    start = add(multiply(x, low[0]), multiply(z, low[2]))
    slope = make_half(x, 0, z, subtract((1, 1), start))
    return meet_of_halves([above(0, low[0]), above(1, low[1]), below(1, high[1]), above(2, low[2]), slope])


def is_left(p, q, r):
    """True if r, seen from above, lies to the left of the line from p to q."""
    return sign(cross(minus(q, p), minus(r, p))[2]) > 0


def side_half(p, q):
    """Returns the half of the points that, seen from above, lie to the left of the line from p to q."""
    x, y, z = minus(q, p)
    return make_half(negate(y), x, 0, subtract(multiply(y, p[0]), multiply(x, p[1])))


def prism(corners, low, high):
    """Returns the prism over a list of corners (x, y), from z = low to z = high."""
    if compare(as_ratio(low), as_ratio(high)) >= 0:
        raise Flat()
    points = [vector(x, y, 0) for x, y in corners]
    nexts = points[1:] + points[:1]
    many = len(points)
    for at, (p, q) in enumerate(zip(points, nexts)):
        others = [points[k] for k in range(many) if k not in (at, (at + 1) % many)]
        if not all([is_left(p, q, r) for r in others]):
            raise BadPolygon()
    return meet_of_halves([side_half(p, q) for p, q in zip(points, nexts)] + [above(2, low), below(2, high)])


def tetrahedron(p, q, r, s):
    """Returns the tetrahedron of four points."""
    if sign(triple(minus(q, p), minus(r, p), minus(s, p))) == 0:
        raise Flat()
    return meet_of_halves([
        half_through(q, r, s, p), half_through(p, r, s, q), half_through(p, q, s, r), half_through(p, q, r, s)])


def planes_through(points):
    """Returns the planes through three of the points that are not in line, without duplicates."""
    found = []
    for i, p in enumerate(points):
        for j, q in enumerate(points[:i]):
            found.extend([plane_through(p, q, r) for r in points[:j] if not in_line(p, q, r)])
    return sorted(set(found))


def hull(points):
    """Returns the hull of a list of 4 to 8 points."""
    halves = []
    for plane in planes_through(sort_points(points)):
        sides = [side_of(plane, p) for p in points]
        for side in (1, -1):
            if side in sides and -side not in sides:
                halves.append((plane, side))
    # If the points do not lie on one plane, each face of their hull has such a plane.
    if not halves:
        raise Flat()
    return meet_of_halves(halves)


def copies(expression, count, *, step):
    """Returns the join of count copies of the expression, each a step further than the one before."""
    return join_all([("move", shift_by(scaled((k, 1), step)), expression) for k in range(count)])


def octahedron(centre, reach):
    """Returns the body of the points whose distances from the centre along the axes add up to less than reach."""
    if sign(reach) <= 0:
        raise Flat()
    signs = [(e0, e1, e2) for e0 in (-1, 1) for e1 in (-1, 1) for e2 in (-1, 1)]
    return meet_of_halves([
        make_half(-e0, -e1, -e2, add(reach, dot(vector(e0, e1, e2), centre))) for e0, e1, e2 in signs])


def point_on(plane):
    """Returns the point of the plane that is nearest to the origin."""
    a, b, c, d = plane
    return scaled(ratio(-d, a * a + b * b + c * c), vector(a, b, c))


def slab(plane, other):
    """Returns the meet of the halves between two parallel planes."""
    if plane == other or not parallel(plane, other):
        raise Flat()
    return meet_of_halves([
        (plane, side_of(plane, point_on(other))), (other, side_of(other, point_on(plane)))])
