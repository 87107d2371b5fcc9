"""Counters: inputs and a rule by which the mean is not the exact result."""

from chancegrain.forms import are_inputs, is_tuple_of
from chancegrain.fractions import added, in_order, lessened, times, total_of
from chancegrain.points import point_off
from chancegrain.polynomials import degree_in, part_by, worth_at
from chancegrain.right import bends, bends_at, with_inputs
from chancegrain.rounded import later_exact
from chancegrain.rules import is_rule, mean_of, two_throw
from chancegrain.worths import argument_of, exact_result


def gap_of(program, inputs, rule):
    """Return the MEAN of the result by a rule less the exact result."""
    return lessened(mean_of(program, inputs, rule), exact_result(program, inputs))


def is_counter(program, thing):
    """Tell whether a value is a COUNTER of a program."""
    if not is_tuple_of(2, thing) or not are_inputs(program, thing[0]):
        return False
    inputs, rule = thing
    return is_rule(program, inputs, rule) and gap_of(program, inputs, rule) != (0, 1)


def bent_point(later, place):
    """Return values for all variables ahead of a place that leave the degree in it as it is."""
    return point_off(part_by(later, place, degree_in(later, place)), place)


def bent_throw(later, ahead, argument):
    """Return a THROW of two values with a mean, such that the mean of what they make is not what it makes.

    later is a polynomial of a degree above 1 in the variable behind those whose values are told ahead.
    """
    behind = ((0, 1),) * (len(later[0][0]) - len(ahead) - 1)
    middle = worth_at(later, ahead + (argument,) + behind)
    # With errors of -size and 2 * size the powers above 1 all add to the mean, with one sign:
    # what is to be met is a polynomial of size that is not 0.
    size = 1
    while True:
        throw = two_throw(added(argument, (-size, 1)), argument, added(argument, (2 * size, 1)))
        worths = [times(chance, worth_at(later, ahead + (value,) + behind)) for value, chance in throw]
        if total_of(worths) != middle:
            return throw
        size += 1


def throw_to(argument, value):
    """Return the THROW with the argument as mean by which a value comes as likely as one beyond it."""
    low, high = in_order([value, lessened(added(argument, argument), value)])
    return two_throw(low, argument, high)


def short_rule(later, inputs, past, arguments):
    """Return a RULE that leads along a past, is exact aside of it, and bends behind it.

    later is the result as a polynomial if all is exact behind the next rounding; arguments are
    those of the roundings of the past, and of this next one.
    """
    # Aside of the past all is exact, and no rounding of the past bends: so the mean differs from
    # the exact result by what the last throw adds, times the chance of the past, and by no more.
    rule = {}
    for count, value in enumerate(past):
        if value != arguments[count]:
            rule[past[:count]] = throw_to(arguments[count], value)
    rule[past] = bent_throw(later, inputs + past, arguments[len(past)])
    return rule


def arguments_along(program, inputs, past):
    """Return the list of the arguments of the roundings of a past, and of the next one."""
    return [argument_of(program, inputs, past[:count]) for count in range(len(past) + 1)]


def counter_of(program):
    """Return a SHORT COUNTER of a program, None if it is RIGHT."""
    bent = bends(program)
    if bent == ():
        return None
    later = later_exact(program, bent[0] + 1)
    point = bent_point(later, program[0] + bent[0])
    inputs, past = point[:program[0]], point[program[0]:]
    return (inputs, short_rule(later, inputs, past, arguments_along(program, inputs, past)))


def counter_at(program, inputs):
    """Return a SHORT RULE at inputs by which the MEAN is not the exact result, None if there is none."""
    bent = bends_at(program, inputs)
    if bent == ():
        return None
    later = with_inputs(later_exact(program, bent[0] + 1), inputs)
    past = bent_point(later, program[0] + bent[0])[program[0]:]
    return short_rule(later, inputs, past, arguments_along(program, inputs, past))


def is_short(program, inputs, rule):
    """Tell whether a RULE is SHORT."""
    bent = bends_at(program, inputs)
    if bent == ():
        return False
    sizes = [len(past) for past in rule]
    if any([size > bent[0] for size in sizes]) or sizes.count(bent[0]) > 1:
        return False
    return all([len(rule[past]) <= 2 for past in rule])
