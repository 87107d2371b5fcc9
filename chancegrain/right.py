"""Whether the mean of a plain program is the exact result by all rules."""

from chancegrain.polynomials import constant, degree_in, put_in
from chancegrain.programs import must_be_plain, names_no_steps, roundings_of, steps_behind
from chancegrain.rounded import later_exact


def with_inputs(one, inputs):
    """Return a polynomial with inputs put in for its first variables."""
    if one == ():
        return ()
    many = len(one[0][0])
    for place, value in enumerate(inputs):
        one = put_in(one, place, constant(many, value))
    return one


def degree_bound(program, rounding):
    """Return what the degree of LATER EXACT of one more in a rounding's variable is at most."""
    kept = roundings_of(program)[:rounding + 1]
    last = len(program[1]) - 1
    bounds = {}
    for index in steps_behind(program, last, kept):
        step = program[1][index]
        if index in kept or names_no_steps(step):
            bounds[index] = 1 if index == kept[rounding] else 0
        elif step[0] == "times":
            bounds[index] = bounds[step[1]] + bounds[step[2]]
        else:
            bounds[index] = max([bounds[side] for side in step[1:]])
    return bounds[last]


def is_bent(program, inputs, rounding):
    """Tell whether a rounding bends with some inputs, perhaps none, put in."""
    # Polynomials may be very long, so they are left alone where no product can make a square.
    if degree_bound(program, rounding) <= 1:
        return False
    one = with_inputs(later_exact(program, rounding + 1), inputs)
    return degree_in(one, program[0] + rounding) > 1


def bent_ones(program, inputs):
    """Return the LOT of the roundings that bend with some inputs, perhaps none, put in."""
    must_be_plain(program)
    many = len(roundings_of(program))
    return tuple([rounding for rounding in range(many) if is_bent(program, inputs, rounding)])


def bends(program):
    """Return the LOT of the roundings in which LATER EXACT of one more is not of degree 1 or 0."""
    return bent_ones(program, ())


def is_right(program):
    """Tell whether a program is RIGHT."""
    must_be_plain(program)
    # The polynomials grow with each rounding, so the first one that bends ends the search.
    for rounding in range(len(roundings_of(program))):
        if is_bent(program, (), rounding):
            return False
    return True


def bends_at(program, inputs):
    """Return the LOT of those for which this is so if the inputs are put in."""
    return bent_ones(program, inputs)


def right_at(program, inputs):
    """Tell whether at these inputs the MEAN is the exact result by all rules."""
    return bends_at(program, inputs) == ()
