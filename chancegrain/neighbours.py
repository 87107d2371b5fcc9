"""Numbers rounded to a neighbour among the multiples of a grain."""

from chancegrain.fractions import added, over, times, whole_below
from chancegrain.rules import is_rule, result_throw, rule_by, two_throw
from chancegrain.walking import all_throws


def neighbours_of(number, grain):
    """Return the tuple (low, high) of the NEIGHBOURS of a number at a grain."""
    low = times((whole_below(over(number, grain)), 1), grain)
    if low == number:
        return (low, low)
    return (low, added(low, grain))


def neighbour_throw(number, grain):
    """Return the only THROW whose values are NEIGHBOURS and whose MEAN is the number."""
    low, high = neighbours_of(number, grain)
    return two_throw(low, number, high)


def neighbour_rule(program, inputs, grains):
    """Return the RULE by which each rounding comes to a neighbour, its keys being just the pasts that come about."""
    return rule_by(program, inputs, lambda past, argument: neighbour_throw(argument, grains[len(past)]))


def neighbour_result(program, inputs, grains):
    """Return the THROW by which the result comes if each rounding comes to a neighbour."""
    return result_throw(program, inputs, neighbour_rule(program, inputs, grains))


def is_neighbour_rule(program, inputs, grains, thing):
    """Tell whether a value is a RULE by which each rounding that comes about comes to a neighbour."""
    if not is_rule(program, inputs, thing):
        return False
    return all_throws(program, inputs, thing, lambda rounding, argument, throw: (
        throw == neighbour_throw(argument, grains[rounding])
    ))
