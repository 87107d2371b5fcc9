"""Whether loops are right for all numbers of rounds."""

from chancegrain.counters import arguments_along, bent_point, short_rule
from chancegrain.errors import TooMany
from chancegrain.forms import are_fractions, is_integer, is_polynomial, is_throw, is_tuple_of
from chancegrain.levels import levels_of, must_be_by_levels
from chancegrain.loops import (
    exact_round, further_runs, mean_of_runs, next_polynomials, round_length, steps_of, values_behind,
)
from chancegrain.placing import Placing
from chancegrain.polynomials import degree_in, plus, scaled, worth_at
from chancegrain.relations import span_factors
from chancegrain.rules import mean_of_throw
from chancegrain.worths import argument_of, worth_of

MOST_GOALS = 40
MOST_ROUNDS = 40
MOST_RUNS = 1000


def span_of(loop, goal):
    """Return the SPAN of a goal with as few goals as there can be."""
    levels = levels_of(loop)
    placing = Placing(loop[0], exact_round(loop))
    # A round leads members to such as have less of the highest levels, or as much.
    order = sorted(list(range(loop[0])), key=lambda state: -levels[state])
    factors = span_factors(placing, goal, order, MOST_GOALS)
    if factors is None:
        raise TooMany(MOST_GOALS)
    goals = ()
    for _ in factors:
        goals = goals + (goal,)
        goal = placing.put_into(goal)
    return (goals, factors)


def is_span(loop, goal, thing):
    """Tell whether a value is a SPAN of a goal."""
    must_be_by_levels(loop)
    if not is_tuple_of(2, thing) or not isinstance(thing[0], tuple):
        return False
    goals, factors = thing
    if not is_tuple_of(len(goals), factors) or not are_fractions(factors):
        return False
    placing = Placing(loop[0], exact_round(loop))
    total = ()
    for one, factor in zip(goals, factors):
        if not is_polynomial(loop[0], one) or one != goal:
            return False
        total = plus(total, scaled(one, factor))
        goal = placing.put_into(goal)
    return total == goal


def later_placings(loop):
    """Return the list that has, for each rounding, what a round puts in if all behind it is exact."""
    many = round_length(loop)
    return [Placing(loop[0] + many, next_polynomials(loop, count + 1)) for count in range(many)]


def bent_later(loop, placings, goal):
    """Return the first rounding of a round that bends, and the goal behind it, None and () if none bends."""
    for rounding, placing in enumerate(placings):
        later = placing.put_into(goal)
        if degree_in(later, loop[0] + rounding) > 1:
            return rounding, later
    return None, ()


def first_amiss(loop, goal):
    """Return the least number of rounds behind which the mean can be wrong, None if there is none."""
    goals, _ = span_of(loop, goal)
    placings = later_placings(loop)
    for count, one in enumerate(goals):
        rounding, _ = bent_later(loop, placings, one)
        if rounding is not None:
            return count + 1
    return None


def right_for_ever(loop, goal):
    """Tell whether a loop is RIGHT FOR EVER for a goal."""
    return first_amiss(loop, goal) is None


def loop_counter(loop, goal):
    """Return a number of rounds, values and a rule by which the mean is wrong, None if there are none."""
    count = first_amiss(loop, goal)
    if count is None:
        return None
    placing = Placing(loop[0], exact_round(loop))
    for _ in range(count - 1):
        goal = placing.put_into(goal)
    # All rounds but the first one are exact: they lead the goal back to behind this one.
    rounding, later = bent_later(loop, later_placings(loop), goal)
    point = bent_point(later, loop[0] + rounding)
    values, past = point[:loop[0]], point[loop[0]:]
    arguments = arguments_along(steps_of(loop), values, past)
    return (count, values, short_rule(later, values, past, arguments))


def loop_argument(loop, values, past):
    """Return the ARGUMENT of the rounding that comes next behind a past of perhaps several rounds."""
    program = steps_of(loop)
    many = round_length(loop)
    while len(past) >= many:
        values = tuple([worth_of(program, values, past[:many], index) for index in loop[2]])
        past = past[many:]
    return argument_of(program, values, past)


def is_loop_rule(loop, values, thing):
    """Tell whether a value is a RULE of a loop at values."""
    if not isinstance(thing, dict) or (thing != {} and round_length(loop) == 0):
        return False
    if not all([are_fractions(past) and is_throw(throw) for past, throw in thing.items()]):
        return False
    return all([mean_of_throw(throw) == loop_argument(loop, values, past) for past, throw in thing.items()])


def is_mean_wrong(loop, goal, values, count, rule):
    """Tell whether at most 1,000 pasts come about, and the mean is not the exact worth."""
    runs = [(values, (), (1, 1))]
    for _ in range(count):
        runs = further_runs(loop, rule, runs)
        # Each run goes on, so they do not become fewer.
        if len(runs) > MOST_RUNS:
            return False
    return mean_of_runs(goal, runs) != worth_at(goal, values_behind(loop, values, count))


def is_loop_counter(loop, goal, thing):
    """Tell whether a value is a number of rounds, values and a RULE by which the mean is wrong."""
    must_be_by_levels(loop)
    if not is_tuple_of(3, thing):
        return False
    count, values, rule = thing
    if not is_integer(count) or not 1 <= count <= MOST_ROUNDS:
        return False
    if not is_tuple_of(loop[0], values) or not are_fractions(values):
        return False
    return is_loop_rule(loop, values, rule) and is_mean_wrong(loop, goal, values, count, rule)
