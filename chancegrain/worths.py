"""What a program comes to at inputs and a past."""

from chancegrain.fractions import added, lessened, times
from chancegrain.programs import roundings_of, steps_behind


def step_worth(step, inputs, values):
    """Return the VALUE of a step that is no rounding, values being those of earlier steps."""
    word = step[0]
    if word == "input":
        return inputs[step[1]]
    if word == "told":
        return step[1]
    if word == "choice":
        _, test, one, other = step
        return values[one] if values[test][0] >= 0 else values[other]
    one, other = values[step[1]], values[step[2]]
    if word == "sum":
        return added(one, other)
    if word == "less":
        return lessened(one, other)
    return times(one, other)


def worths_of(program, inputs, past, indexes):
    """Return the dict from some steps to their VALUES, all that they name being there too."""
    roundings = roundings_of(program)
    values = {}
    for index in indexes:
        if index in roundings:
            values[index] = past[roundings.index(index)]
        else:
            values[index] = step_worth(program[1][index], inputs, values)
    return values


def worth_of(program, inputs, past, step):
    """Return the VALUE of a step."""
    # Steps that it does not need may hang on roundings behind the past, or be very long.
    indexes = steps_behind(program, step, roundings_of(program))
    return worths_of(program, inputs, past, indexes)[step]


def values_of(program, inputs, past):
    """Return the list of the VALUES of all steps."""
    values = worths_of(program, inputs, past, list(range(len(program[1]))))
    return [values[index] for index in range(len(program[1]))]


def result_of(program, inputs, past):
    """Return the RESULT by a past that has an item for each rounding."""
    return worth_of(program, inputs, past, len(program[1]) - 1)


def argument_of(program, inputs, past):
    """Return the ARGUMENT of the first rounding behind a past."""
    rounding = roundings_of(program)[len(past)]
    return worth_of(program, inputs, past, program[1][rounding][1])


def errors_of(program, inputs, past):
    """Return the tuple of the errors of the items of a past."""
    return tuple([
        lessened(value, argument_of(program, inputs, past[:count])) for count, value in enumerate(past)
    ])


def exact_past(program, inputs):
    """Return the past in which each rounding comes to its argument."""
    past = ()
    for _ in roundings_of(program):
        past = past + (argument_of(program, inputs, past),)
    return past


def exact_result(program, inputs):
    """Return the EXACT result."""
    return result_of(program, inputs, exact_past(program, inputs))
