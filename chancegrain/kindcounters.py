"""Error throws that show that a program is not own-right, or not even-right."""

from chancegrain.errorthrows import are_error_throws, are_even
from chancegrain.forms import are_inputs, is_tuple_of
from chancegrain.fractions import in_order, power_of, times, total_of
from chancegrain.lots import error_lots, lots_at
from chancegrain.points import point_off
from chancegrain.polynomials import gathered
from chancegrain.programs import must_be_plain, roundings_of
from chancegrain.rules import sure_throw, two_throw

ZERO = (0, 1)
# Of the first throw only the moment of 1 is 0, of the second one those of odd numbers.
UNEVEN_ERRORS = ((-1, 1), (2, 1))
EVEN_ERRORS = ((-1, 1), (1, 1))


def moment(throw, count):
    """Return the mean of the so-manieth power of what a THROW comes to."""
    return total_of([times(chance, power_of(value, count)) for value, chance in throw])


def lot_mean(lot, throws):
    """Return the mean of the product of the powers of errors that a lot tells, by ERROR THROWS."""
    mean = (1, 1)
    for count, throw in zip(lot, throws):
        mean = times(mean, moment(throw, count))
    return mean


def throws_gap(program, inputs, throws):
    """Return the mean of the result by ERROR THROWS at inputs, less the exact result."""
    worths = lots_at(program, inputs)
    return total_of([times(worth, lot_mean(lot, throws)) for lot, worth in worths.items()])


def stretched_throw(values, size):
    """Return the THROW of the mean 0 with two values, each of them times a size."""
    if size == ZERO:
        return sure_throw(ZERO)
    low, high = in_order([times(value, size) for value in values])
    return two_throw(low, ZERO, high)


def gap_polynomial(program, values):
    """Return throws_gap as a POLYNOMIAL of the inputs, and of the sizes of throws with two values."""
    throws = (stretched_throw(values, (1, 1)),) * len(roundings_of(program))
    members = {}
    for lot, factor in error_lots(program).items():
        mean = lot_mean(lot, throws)
        for powers, by in factor:
            members[powers + lot] = times(by, mean)
    return gathered(members)


def stretched_counter(program, values):
    """Return inputs and stretched throws by which the mean is not the exact result, None if there are none."""
    gap = gap_polynomial(program, values)
    if gap == ():
        return None
    point = point_off(gap, program[0] + len(roundings_of(program)))
    throws = tuple([stretched_throw(values, size) for size in point[program[0]:]])
    return (point[:program[0]], throws)


def own_counter(program):
    """Return an OWN COUNTER, None if there is none."""
    return stretched_counter(program, UNEVEN_ERRORS)


def even_counter(program):
    """Return an EVEN COUNTER, None if there is none."""
    return stretched_counter(program, EVEN_ERRORS)


def is_own_counter(program, thing):
    """Tell whether a value is an OWN COUNTER."""
    must_be_plain(program)
    if not is_tuple_of(2, thing) or not are_inputs(program, thing[0]):
        return False
    inputs, throws = thing
    return are_error_throws(program, throws) and throws_gap(program, inputs, throws) != ZERO


def is_even_counter(program, thing):
    """Tell whether a value is an EVEN COUNTER."""
    return is_own_counter(program, thing) and are_even(thing[1])
