"""Roots of polynomials over a field, and the polynomial through points."""

from mendfield.errors import ByNought, NoPoints
from mendfield.polys import poly_divided, poly_plus, poly_times, trimmed, value_at


def less_root(field, r):
    """The polynomial X - r."""
    return [field.minus(0, r), 1]


def by_roots(field, some):
    """The product of X - r for each r of the list, as often as it stands there."""
    found = [1]
    for r in some:
        found = poly_times(field, found, less_root(field, r))
    return found


def roots_of(field, a):
    """All elements at which the value of a is 0, rising."""
    return [x for x in range(field.many) if value_at(field, a, x) == 0]


def how_often(field, a, x):
    """How often x is a root of a, which is not 0."""
    left = trimmed(a)
    if left == []:
        raise ByNought("each element is a root of 0 without end")
    times = 0
    while value_at(field, left, x) == 0:
        left = poly_divided(field, left, less_root(field, x))[0]
        times += 1
    return times


def refuse_doubled(points):
    """Refuses points of which an x stands twice."""
    met = {}
    for place, point in enumerate(points):
        if point[0] in met:
            raise NoPoints(place)
        met[point[0]] = True


def through(field, points):
    """The polynomial through the points that has at most as many elements as they are."""
    refuse_doubled(points)
    found = []
    # nought is 0 at each x that is done, so any multiple of it may be added.
    nought = [1]
    for x, y in points:
        off = field.minus(y, value_at(field, found, x))
        factor = field.over(off, value_at(field, nought, x))
        found = poly_plus(field, found, field.scaled(factor, nought))
        nought = poly_times(field, nought, less_root(field, x))
    return found
