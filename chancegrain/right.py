"""Whether the mean of a plain program is the exact result by all rules."""

from chancegrain.polynomials import constant, degree_in, put_in
from chancegrain.programs import must_be_plain, roundings_of
from chancegrain.rounded import later_exact


def with_inputs(one, inputs):
    """Return a polynomial with inputs put in for its first variables."""
    if one == ():
        return ()
    many = len(one[0][0])
    for place, value in enumerate(inputs):
        one = put_in(one, place, constant(many, value))
    return one


def bent_ones(program, inputs):
    """Return the LOT of the roundings that bend with some inputs, perhaps none, put in."""
    must_be_plain(program)
    found = []
    for rounding in range(len(roundings_of(program))):
        one = with_inputs(later_exact(program, rounding + 1), inputs)
        if degree_in(one, program[0] + rounding) > 1:
            found.append(rounding)
    return tuple(found)


def bends(program):
    """Return the LOT of the roundings in which LATER EXACT of one more is not of degree 1 or 0."""
    return bent_ones(program, ())


def is_right(program):
    """Tell whether a program is RIGHT."""
    return bends(program) == ()


def bends_at(program, inputs):
    """Return the LOT of those for which this is so if the inputs are put in."""
    return bent_ones(program, inputs)


def right_at(program, inputs):
    """Tell whether at these inputs the MEAN is the exact result by all rules."""
    return bends_at(program, inputs) == ()
