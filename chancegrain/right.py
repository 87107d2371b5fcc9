"""Whether the mean of a plain program is the exact result by all rules."""

from chancegrain.polynomials import constant, degree_in, put_in
from chancegrain.programs import must_be_plain, roundings_of
from chancegrain.rounded import later_exact


def with_inputs(one, inputs):
    """Return a polynomial with inputs put in for its first variables."""
    if one == ():
        return ()
    many = len(one[0][0])
    for place, value in enumerate(inputs):
        one = put_in(one, place, constant(many, value))
    return one


def is_bent(program, inputs, rounding):
    """Tell whether a rounding bends with some inputs, perhaps none, put in."""
    one = with_inputs(later_exact(program, rounding + 1), inputs)
    return degree_in(one, program[0] + rounding) > 1


def bent_ones(program, inputs):
    """Return the LOT of the roundings that bend with some inputs, perhaps none, put in."""
    must_be_plain(program)
    many = len(roundings_of(program))
    return tuple([rounding for rounding in range(many) if is_bent(program, inputs, rounding)])


def bends(program):
    """Return the LOT of the roundings in which LATER EXACT of one more is not of degree 1 or 0."""
    return bent_ones(program, ())


def is_right(program):
    """Tell whether a program is RIGHT."""
    must_be_plain(program)
    # The polynomials grow with each rounding, so the first one that bends ends the search.
    for rounding in range(len(roundings_of(program))):
        if is_bent(program, (), rounding):
            return False
    return True


def bends_at(program, inputs):
    """Return the LOT of those for which this is so if the inputs are put in."""
    return bent_ones(program, inputs)


def right_at(program, inputs):
    """Tell whether at these inputs the MEAN is the exact result by all rules."""
    return bends_at(program, inputs) == ()
