"""The greatest and the least mean of all rules whose values are multiples of grains."""

from chancegrain.fractions import added, is_less, lessened, over, times
from chancegrain.programs import beside
from chancegrain.reaches import multiples, must_be_few
from chancegrain.rules import rule_by, two_throw
from chancegrain.spread import below_zero
from chancegrain.walking import Walk


def turned(program):
    """Return the program whose result is that of another one, below 0 for above it."""
    return beside((program[0], (("told", (0, 1)),)), program, "less")


def slope_between(one, other):
    """Return the slope of the straight line through two points (number, height) at unlike numbers."""
    return over(lessened(other[1], one[1]), lessened(other[0], one[0]))


def line_through(edge):
    """Return the straight line (height, slope) through the ends of an edge."""
    low, high = edge
    slope = (0, 1) if low == high else slope_between(low, high)
    return (lessened(low[1], times(low[0], slope)), slope)


def height_at(line, number):
    """Return what a straight line (height, slope) is at a number."""
    height, slope = line
    return added(height, times(slope, number))


def roof_of(points):
    """Return the ascending list of the corners of the least roof, bent down alone, that is nowhere below points."""
    corners, slopes = [], []
    for point in points:
        while len(slopes) > 0 and not is_less(slope_between(corners[-1], point), slopes[-1]):
            corners.pop()
            slopes.pop()
        if len(corners) > 0:
            slopes.append(slope_between(corners[-1], point))
        corners.append(point)
    return corners


def edge_above(points, number):
    """Return the two corners of the roof of ascending points between which a number lies."""
    corners = roof_of(points)
    for low, high in zip(corners, corners[1:]):
        if not is_less(high[0], number):
            return (low, high)
    return (corners[0], corners[0])


def values_by(argument, way):
    """Return the values that may come at an argument: it alone if the way is None, otherwise by a grain and a width."""
    if way is None:
        return (argument,)
    return multiples(argument, way[0], way[1])


def climbed(walk, ways, past, told, edges):
    """Return the greatest mean behind a past.

    The edges of the roofs, at it and at all pasts behind it, are put into a dict.
    """
    if walk.is_over(told):
        return told[-1]
    # It is to stand ahead of all that begin with it.
    edges[past] = None
    points = [
        (value, climbed(walk, ways, past + (value,), walk.behind(told, value), edges))
        for value in values_by(walk.argument(told), ways[len(past)])
    ]
    edges[past] = edge_above(points, walk.argument(told))
    return height_at(line_through(edges[past]), walk.argument(told))


def greatest_by(program, inputs, ways):
    """Return the greatest mean by all rules whose values may come by ways, one for each rounding."""
    walk = Walk(program, inputs)
    return climbed(walk, ways, (), walk.begun(), {})


def edges_by(program, inputs, grains):
    """Return the dict from the pasts ON GRAINS that are not full to the edges of the roofs at their arguments."""
    must_be_few(program, inputs, grains)
    walk = Walk(program, inputs)
    edges = {}
    climbed(walk, grains, (), walk.begun(), edges)
    return edges


def greatest_mean(program, inputs, grains):
    """Return the greatest MEAN of the result by all rules ON GRAINS."""
    must_be_few(program, inputs, grains)
    return greatest_by(program, inputs, grains)


def least_mean(program, inputs, grains):
    """Return the least MEAN of the result by all rules ON GRAINS."""
    return below_zero(greatest_mean(turned(program), inputs, grains))


def greatest_plan(program, inputs, grains):
    """Return a RULE ON GRAINS, of throws of at most two values, that has the greatest mean."""
    edges = edges_by(program, inputs, grains)
    return rule_by(program, inputs, lambda past, argument: (
        two_throw(edges[past][0][0], argument, edges[past][1][0])
    ))


def least_plan(program, inputs, grains):
    """Return a RULE ON GRAINS, of throws of at most two values, that has the least mean."""
    return greatest_plan(turned(program), inputs, grains)
