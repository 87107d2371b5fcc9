"""Rules: by which throw a rounding comes at each past."""

from chancegrain.errors import TooMany
from chancegrain.forms import is_past, is_throw
from chancegrain.fractions import in_order, lessened, over, power_of, times, total_of
from chancegrain.programs import roundings_of
from chancegrain.worths import argument_of, exact_result, result_of

MOST_PASTS = 4000


def mean_of_throw(throw):
    """Return the MEAN of a THROW."""
    return total_of([times(value, chance) for value, chance in throw])


def sure_throw(value):
    """Return the THROW that has just one value."""
    return ((value, (1, 1)),)


def two_throw(low, mean, high):
    """Return the only THROW with this MEAN that has no other values than low and high."""
    if mean == low or mean == high:
        return sure_throw(mean)
    chance = over(lessened(mean, low), lessened(high, low))
    return ((low, lessened((1, 1), chance)), (high, chance))


def is_rule_item(program, inputs, past, throw):
    """Tell whether two values are a past and a throw that may stand in a RULE."""
    if not is_past(program, past) or len(past) == len(roundings_of(program)):
        return False
    return is_throw(throw) and mean_of_throw(throw) == argument_of(program, inputs, past)


def is_rule(program, inputs, thing):
    """Tell whether a value is a RULE of a program at inputs."""
    if not isinstance(thing, dict):
        return False
    return all([is_rule_item(program, inputs, past, throw) for past, throw in thing.items()])


def throw_at(program, inputs, rule, past):
    """Return the THROW by which the next rounding comes at a past."""
    if past in rule:
        return rule[past]
    return sure_throw(argument_of(program, inputs, past))


def rule_by(program, inputs, throw_for):
    """Return the RULE whose keys are just the pasts, short of full ones, that come about by it.

    throw_for is called with a past and the argument of its next rounding, and tells the throw.
    """
    many = len(roundings_of(program))
    rule = {}
    # The last one waiting is always the least: a past stands ahead of all that begin with it.
    waiting = [()]
    while len(waiting) > 0:
        past = waiting.pop()
        if len(past) < many:
            throw = throw_for(past, argument_of(program, inputs, past))
            rule[past] = throw
            waiting.extend([past + (item[0],) for item in reversed(throw)])
    return rule


def chance_in(throw, value):
    """Return the chance of a value in a THROW."""
    for item in throw:
        if item[0] == value:
            return item[1]
    return (0, 1)


def chance_of(program, inputs, rule, past):
    """Return the chance that a rule gives a past."""
    chance = (1, 1)
    for count, value in enumerate(past):
        throw = throw_at(program, inputs, rule, past[:count])
        chance = times(chance, chance_in(throw, value))
    return chance


def one_further(program, inputs, rule, pasts):
    """Return what pasts_that_come does, from what it does for one item less."""
    further = []
    for past, chance in pasts:
        throw = throw_at(program, inputs, rule, past)
        # Each past goes on in at least one way, so none of what is too many here goes away later.
        if len(further) + len(throw) > MOST_PASTS:
            raise TooMany(MOST_PASTS)
        further.extend([(past + (value,), times(chance, part)) for value, part in throw])
    return further


def pasts_that_come(program, inputs, rule, count):
    """Return the ascending list of the pasts of so many items that come about, with their chances."""
    pasts = [((), (1, 1))]
    for _ in range(count):
        pasts = one_further(program, inputs, rule, pasts)
    return pasts


def result_throw(program, inputs, rule):
    """Return the THROW by which the result comes."""
    chances = {}
    for past, chance in pasts_that_come(program, inputs, rule, len(roundings_of(program))):
        chances.setdefault(result_of(program, inputs, past), []).append(chance)
    return tuple([(value, total_of(chances[value])) for value in in_order(list(chances))])


def mean_of(program, inputs, rule):
    """Return the MEAN of the result by a rule."""
    return mean_of_throw(result_throw(program, inputs, rule))


def square_of(program, inputs, rule):
    """Return the SQUARE of a rule: the mean of the square of the result's error."""
    exact = exact_result(program, inputs)
    throw = result_throw(program, inputs, rule)
    return total_of([times(chance, power_of(lessened(value, exact), 2)) for value, chance in throw])
