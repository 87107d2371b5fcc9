"""Error throws: each rounding errs by a throw of its own, whatever else came."""

from chancegrain.errors import TooMany
from chancegrain.forms import is_throw, is_tuple_of
from chancegrain.fractions import added
from chancegrain.programs import roundings_of
from chancegrain.rules import MOST_PASTS, mean_of_throw, rule_by


def is_error_throw(thing):
    """Tell whether a value is a THROW of the mean 0."""
    return is_throw(thing) and mean_of_throw(thing) == (0, 1)


def are_error_throws(program, thing):
    """Tell whether a value is ERROR THROWS of a program."""
    many = len(roundings_of(program))
    return is_tuple_of(many, thing) and all([is_error_throw(item) for item in thing])


def mirrored(throw):
    """Return the THROW with each value below 0 instead of above it, and the other way about."""
    return tuple([((-num, den), chance) for (num, den), chance in reversed(throw)])


def are_even(throws):
    """Tell whether some ERROR THROWS are EVEN."""
    return all([throw == mirrored(throw) for throw in throws])


def full_pasts_many(throws):
    """Return how many full pasts come about by ERROR THROWS."""
    many = 1
    for throw in throws:
        many = many * len(throw)
    return many


def throw_around(argument, throw):
    """Return the THROW whose values are an argument and the errors of a throw."""
    return tuple([(added(argument, error), chance) for error, chance in throw])


def rule_of(program, inputs, throws):
    """Return the RULE of ERROR THROWS at inputs."""
    if full_pasts_many(throws) > MOST_PASTS:
        raise TooMany(MOST_PASTS)
    return rule_by(program, inputs, lambda past, argument: throw_around(argument, throws[len(past)]))
