"""What programs are made of, and how two of them become one."""

from chancegrain.errors import NotPlain


def steps_with(program, word):
    """Return the ascending tuple of the indexes of the steps with a word."""
    return tuple([index for index, step in enumerate(program[1]) if step[0] == word])


def roundings_of(program):
    """Return the ascending tuple of the indexes of the "round" steps."""
    return steps_with(program, "round")


def choices_of(program):
    """Return the ascending tuple of the indexes of the "choice" steps."""
    return steps_with(program, "choice")


def names_no_steps(step):
    """Tell whether what stands behind the word of a step is no index of a step."""
    return step[0] in ("input", "told")


def steps_behind(program, step, ends):
    """Return the ascending list of a step and all that it is worked out from.

    The steps that one of the ends names are not looked for.
    """
    reached = {step: True}
    for index in range(step, -1, -1):
        named = program[1][index]
        if index in reached and index not in ends and not names_no_steps(named):
            for earlier in named[1:]:
                reached[earlier] = True
    return sorted(reached)


def hangs_on(program, step):
    """Return the LOT of the roundings on which a step HANGS."""
    behind = steps_behind(program, step, ())
    return tuple([number for number, index in enumerate(roundings_of(program)) if index in behind])


def needed_by(program, ends):
    """Return the dict to True from the steps that some ends, or some rounding, need."""
    needed = {}
    for step in ends + roundings_of(program):
        for index in steps_behind(program, step, ()):
            needed[index] = True
    return needed


def moved_along(step, by):
    """Return a step whose indexes of steps are greater by so much."""
    if names_no_steps(step):
        return step
    return step[:1] + tuple([index + by for index in step[1:]])


def beside(one, other, word):
    """Return the program of the steps of two, and of their results joined by a word."""
    ahead = len(one[1])
    steps = one[1] + tuple([moved_along(step, ahead) for step in other[1]])
    return (one[0], steps + ((word, ahead - 1, len(steps) - 1),))


def must_be_plain(program):
    """Raise NotPlain with the index of the first "choice" step, if there is one."""
    choices = choices_of(program)
    if len(choices) > 0:
        raise NotPlain(choices[0])
