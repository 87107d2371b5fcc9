"""Loops: plain programs whose states go round."""

from chancegrain.forms import is_index, is_program, is_tuple_of
from chancegrain.fractions import times, total_of
from chancegrain.placing import Placing
from chancegrain.polynomials import worth_at
from chancegrain.programs import choices_of, needed_by, roundings_of
from chancegrain.rounded import step_rounded
from chancegrain.rules import sure_throw
from chancegrain.worths import step_worth


def is_loop(thing):
    """Tell whether a value is a LOOP, but for the bounds."""
    if not is_tuple_of(3, thing):
        return False
    many, steps, nexts = thing
    if not is_program((many, steps)) or many == 0 or choices_of((many, steps)) != ():
        return False
    return is_tuple_of(many, nexts) and all([is_index(index, len(steps)) for index in nexts])


def steps_of(loop):
    """Return the PROGRAM of one round of a loop, the states being its inputs."""
    return (loop[0], loop[1])


def round_length(loop):
    """Return how many roundings a round has."""
    return len(roundings_of(steps_of(loop)))


def next_polynomials(loop, count):
    """Return what the states become by a round whose roundings from count on come to their arguments.

    These are polynomials of the states and of the ROUNDED variables.
    """
    return tuple([step_rounded(steps_of(loop), index, count) for index in loop[2]])


def exact_round(loop):
    """Return the tuple of the POLYNOMIALS of the states that these become by an exact round."""
    many = loop[0]
    return tuple([
        tuple([(powers[:many], factor) for powers, factor in one]) for one in next_polynomials(loop, 0)
    ])


def led_goal(loop, goal, count):
    """Return the POLYNOMIAL that is goal at the states behind so many exact rounds."""
    placing = Placing(loop[0], exact_round(loop))
    for _ in range(count):
        goal = placing.put_into(goal)
    return goal


def run_on(step, states, rule, run):
    """Return the runs that one becomes by a step: lists of values, pasts, and chances."""
    values, past, chance = run
    if step[0] != "round":
        return [(values + (step_worth(step, states, values),), past, chance)]
    throw = rule.get(past, sure_throw(values[step[1]]))
    return [(values + (value,), past + (value,), times(chance, part)) for value, part in throw]


def round_runs(loop, needed, rule, start):
    """Return the runs (states, past, chance) that one becomes by a round."""
    states, past, chance = start
    runs = [((), past, chance)]
    for index, step in enumerate(loop[1]):
        if index in needed:
            runs = [further for run in runs for further in run_on(step, states, rule, run)]
        else:
            runs = [(values + (None,), past, chance) for values, past, chance in runs]
    return [(tuple([values[index] for index in loop[2]]), past, chance) for values, past, chance in runs]


def further_runs(loop, rule, runs):
    """Return the runs that some become by a round."""
    needed = needed_by(steps_of(loop), loop[2])
    return [further for run in runs for further in round_runs(loop, needed, rule, run)]


def runs_behind(loop, values, count, rule):
    """Return the runs (states, past, chance) behind so many rounds."""
    runs = [(values, (), (1, 1))]
    for _ in range(count):
        runs = further_runs(loop, rule, runs)
    return runs


def values_behind(loop, values, count):
    """Return the values of the states behind so many exact rounds."""
    return runs_behind(loop, values, count, {})[0][0]


def mean_of_runs(goal, runs):
    """Return the mean of the worth of goal at the states of some runs."""
    return total_of([times(chance, worth_at(goal, states)) for states, _, chance in runs])


def mean_behind(loop, goal, values, count, rule):
    """Return the MEAN of goal at the states behind so many rounds by a RULE."""
    return mean_of_runs(goal, runs_behind(loop, values, count, rule))


def member_steps(ahead, nexts, powers, factor):
    """Return the steps, behind so many ahead, of a factor times powers of the next states."""
    steps = (("told", factor),)
    for index, count in zip(nexts, powers):
        for _ in range(count):
            steps = steps + (("times", ahead + len(steps) - 1, index),)
    return steps


def round_program(loop, goal):
    """Return the PLAIN PROGRAM whose result is goal at the states behind one round."""
    many, steps, nexts = loop
    steps = steps + (("told", (0, 1)),)
    for powers, factor in goal:
        total = len(steps) - 1
        steps = steps + member_steps(len(steps), nexts, powers, factor)
        steps = steps + (("sum", total, len(steps) - 1),)
    return (many, steps)
