"""Numbers rounded to a neighbour again and again, by one grain behind the other."""

from chancegrain.fractions import in_order, over, times, total_of
from chancegrain.neighbours import neighbour_throw
from chancegrain.rules import sure_throw


def rounded_throw(throw, grain):
    """Return the THROW of what a throw becomes if what it comes to is rounded to a neighbour."""
    parts = {}
    for number, chance in throw:
        for value, share in neighbour_throw(number, grain):
            parts.setdefault(value, []).append(times(chance, share))
    return tuple([(value, total_of(parts[value])) for value in in_order(list(parts))])


def again_throw(number, grains):
    """Return the THROW of what a number becomes if it is rounded to a neighbour at each grain in turn."""
    throw = sure_throw(number)
    for grain in grains:
        throw = rounded_throw(throw, grain)
    return throw


def is_once(grains):
    """Tell whether all numbers come by the same throw if they are rounded to the last grain at once."""
    return all([over(grains[-1], grain)[1] == 1 for grain in grains])


def once_parting(grains):
    """Return a number that does not come by the same throw if it is rounded at once, None if there is none."""
    if is_once(grains):
        return None
    # At once the last grain itself stays as it is; a grain of which it is no multiple parts it,
    # and what has come apart never comes together again, the mean being kept.
    return grains[-1]
