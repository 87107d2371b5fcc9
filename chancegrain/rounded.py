"""What a plain program comes to, as polynomials of inputs and of what the roundings come to."""

from chancegrain.polynomials import constant, minus, multiplied, plus, unit
from chancegrain.programs import must_be_plain, roundings_of, steps_behind


def step_polynomial(step, many, found):
    """Return the polynomial of a step, found being those of earlier ones, of so many variables.

    A rounding comes to its argument.
    """
    word = step[0]
    if word == "input":
        return unit(many, step[1])
    if word == "told":
        return constant(many, step[1])
    if word == "round":
        return found[step[1]]
    one, other = found[step[1]], found[step[2]]
    if word == "sum":
        return plus(one, other)
    if word == "less":
        return minus(one, other)
    return multiplied(one, other)


def step_rounded(program, step, count):
    """Return the polynomial of a step, all roundings from count on coming to their arguments."""
    roundings = roundings_of(program)
    many = program[0] + len(roundings)
    kept = roundings[:count]
    found = {}
    for index in steps_behind(program, step, kept):
        if index in kept:
            found[index] = unit(many, program[0] + kept.index(index))
        else:
            found[index] = step_polynomial(program[1][index], many, found)
    return found[step]


def later_exact(program, count):
    """Return LATER EXACT(count)."""
    must_be_plain(program)
    return step_rounded(program, len(program[1]) - 1, count)


def rounded_result(program):
    """Return the result as a polynomial of the inputs and the ROUNDED variables."""
    return later_exact(program, len(roundings_of(program)))


def rounded_argument(program, rounding):
    """Return the argument of a rounding as such a polynomial."""
    must_be_plain(program)
    return step_rounded(program, program[1][roundings_of(program)[rounding]][1], rounding)
