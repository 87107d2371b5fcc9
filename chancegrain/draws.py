"""Polynomials of unknown quantities, had by draws whose means these are."""

from chancegrain.counters import bent_point, short_rule
from chancegrain.fractions import added, times, total_of
from chancegrain.points import point_off
from chancegrain.polynomials import degree_in, gathered, minus, worth_at
from chancegrain.rules import sure_throw


def fewest_draws(many, goal):
    """Return the tuple of the DEGREES of a goal: with fewer draws no use is fair."""
    return tuple([degree_in(goal, place) for place in range(many)])


def draw_powers(powers, counts):
    """Return the powers of the draws in which the first ones of each quantity stand for its power."""
    found = ()
    for power, count in zip(powers, counts):
        found = found + (1,) * power + (0,) * (count - power)
    return found


def use_for(many, goal, counts):
    """Return the use in which draws stand in the place of powers, None if there are too few."""
    if any([fewest > count for fewest, count in zip(fewest_draws(many, goal), counts)]):
        return None
    return gathered({draw_powers(powers, counts): factor for powers, factor in goal})


def quantities_of(counts):
    """Return the list with the quantity of each draw."""
    return [quantity for quantity, count in enumerate(counts) for _ in range(count)]


def later_known(many, counts, use, count):
    """Return a use as a POLYNOMIAL of quantities and draws, with the quantities for the draws from count on."""
    quantities = quantities_of(counts)
    factors = {}
    for powers, factor in use:
        known = [0] * many
        for quantity, power in zip(quantities[count:], powers[count:]):
            known[quantity] += power
        key = tuple(known) + powers[:count] + (0,) * (len(quantities) - count)
        factors[key] = added(factors.get(key, (0, 1)), factor)
    return gathered(factors)


def goal_gap(many, goal, counts, use):
    """Return what a use becomes when all draws are replaced by their quantities, less the goal."""
    known = later_known(many, counts, use, 0)
    return minus(tuple([(powers[:many], factor) for powers, factor in known]), goal)


def bent_draws(many, counts, use):
    """Return the LOT of the draws in which a use, all later ones known, has a DEGREE above 1."""
    return tuple([
        draw for draw in range(sum(counts))
        if degree_in(later_known(many, counts, use, draw + 1), many + draw) > 1
    ])


def is_fair(many, goal, counts, use):
    """Tell whether a use is FAIR."""
    return goal_gap(many, goal, counts, use) == () and bent_draws(many, counts, use) == ()


def use_mean(counts, use, values, rule):
    """Return the mean of a use by a DRAW RULE."""
    pasts = [((), (1, 1))]
    for quantity in quantities_of(counts):
        further = []
        for past, chance in pasts:
            throw = rule.get(past, sure_throw(values[quantity]))
            further.extend([(past + (value,), times(chance, part)) for value, part in throw])
        pasts = further
    return total_of([times(chance, worth_at(use, past)) for past, chance in pasts])


def unfair_rule(many, goal, counts, use):
    """Return values and a DRAW RULE by which the mean is not the worth of the goal, None if the use is fair."""
    gap = goal_gap(many, goal, counts, use)
    if gap != ():
        return (point_off(gap, many), {})
    bent = bent_draws(many, counts, use)
    if bent == ():
        return None
    later = later_known(many, counts, use, bent[0] + 1)
    point = bent_point(later, many + bent[0])
    values, past = point[:many], point[many:]
    arguments = [values[quantity] for quantity in quantities_of(counts)[:bent[0] + 1]]
    return (values, short_rule(later, values, past, arguments))
