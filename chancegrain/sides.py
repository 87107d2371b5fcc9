"""To which sides the mean can be off on grains, and by which roundings it can't."""

from chancegrain.anew import lies_in, sub_lots
from chancegrain.fractions import is_less
from chancegrain.grainmeans import greatest_by, greatest_mean, least_mean, turned
from chancegrain.reaches import must_be_few
from chancegrain.spread import below_zero
from chancegrain.worths import exact_result


def side_of(one, exact):
    """Return -1, 0 or 1 as a FRACTION is less than another one, the same, or greater."""
    if one == exact:
        return 0
    return -1 if is_less(one, exact) else 1


def sides_of(program, inputs, grains):
    """Return to which sides of the exact result the least mean, and the greatest one, are."""
    least, greatest = least_mean(program, inputs, grains), greatest_mean(program, inputs, grains)
    exact = exact_result(program, inputs)
    return (side_of(least, exact), side_of(greatest, exact))


def span_by(program, inputs, grains, lot):
    """Return the least and the greatest mean if all roundings that are not in a lot are exact."""
    ways = tuple([way if rounding in lot else None for rounding, way in enumerate(grains)])
    least = below_zero(greatest_by(turned(program), inputs, ways))
    return (least, greatest_by(program, inputs, ways))


def mean_span(program, inputs, grains, lot):
    """Return the least and the greatest MEAN by all rules that round those of a lot alone, ON GRAINS."""
    must_be_few(program, inputs, grains)
    return span_by(program, inputs, grains, lot)


def safe_lots(program, inputs, grains):
    """Return the ascending list of the greatest lots that, rounded alone, leave the mean exact by all rules."""
    must_be_few(program, inputs, grains)
    exact = exact_result(program, inputs)
    found = []
    # Each lot is asked behind all those in which it lies: these go first, backwards.
    for lot in reversed(sub_lots(list(range(len(grains))))):
        if not any([lies_in(lot, one) for one in found]) and span_by(program, inputs, grains, lot) == (exact, exact):
            found.append(lot)
    return sorted(found)
