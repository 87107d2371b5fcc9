"""Whether a value, any value, has one of the forms that the document defines."""

from math import gcd, lcm

# How many steps a step with this word names.
NAMED_STEPS = {"sum": 2, "less": 2, "times": 2, "round": 1, "choice": 3}


def is_integer(thing):
    """Tell whether a value is an integer; True and False are none."""
    return isinstance(thing, int) and not isinstance(thing, bool)


def is_count(thing):
    """Tell whether a value is an integer from 0 on."""
    return is_integer(thing) and thing >= 0


def is_index(thing, many):
    """Tell whether a value is an index of one of so many."""
    return is_count(thing) and thing < many


def is_tuple_of(many, thing):
    """Tell whether a value is a tuple of so many items."""
    return isinstance(thing, tuple) and len(thing) == many


def is_fraction(thing):
    """Tell whether a value is a FRACTION."""
    if not is_tuple_of(2, thing):
        return False
    num, den = thing
    return is_integer(num) and is_integer(den) and den > 0 and gcd(num, den) == 1


def are_fractions(thing):
    """Tell whether a value is a tuple of FRACTIONS."""
    return isinstance(thing, tuple) and all([is_fraction(item) for item in thing])


def are_powers(many, thing):
    """Tell whether a value is the powers of so many variables."""
    return is_tuple_of(many, thing) and all([is_count(item) for item in thing])


def is_member(many, thing):
    """Tell whether a value is a MEMBER of a polynomial of so many variables."""
    if not is_tuple_of(2, thing):
        return False
    powers, factor = thing
    return are_powers(many, powers) and is_fraction(factor) and factor[0] != 0


def is_polynomial(many, thing):
    """Tell whether a value is a POLYNOMIAL of so many variables."""
    if not isinstance(thing, tuple) or not all([is_member(many, item) for item in thing]):
        return False
    return all([one[0] < other[0] for one, other in zip(thing, thing[1:])])


def is_step(many, ahead, thing):
    """Tell whether a value is a STEP, with so many inputs and so many steps ahead of it."""
    if not isinstance(thing, tuple) or len(thing) == 0 or not isinstance(thing[0], str):
        return False
    word, told = thing[0], thing[1:]
    if word == "input":
        return len(told) == 1 and is_index(told[0], many)
    if word == "told":
        return len(told) == 1 and is_fraction(told[0])
    if word not in NAMED_STEPS or len(told) != NAMED_STEPS[word]:
        return False
    return all([is_index(item, ahead) for item in told])


def is_program(thing):
    """Tell whether a value is a PROGRAM."""
    if not is_tuple_of(2, thing):
        return False
    many, steps = thing
    if not is_count(many) or not isinstance(steps, tuple) or len(steps) == 0:
        return False
    return all([is_step(many, index, step) for index, step in enumerate(steps)])


def are_inputs(program, thing):
    """Tell whether a value is INPUTS of a program."""
    return is_tuple_of(program[0], thing) and are_fractions(thing)


def is_past(program, thing):
    """Tell whether a value is a PAST of a program."""
    roundings = [step for step in program[1] if step[0] == "round"]
    return are_fractions(thing) and len(thing) <= len(roundings)


def is_throw_item(thing):
    """Tell whether a value is a value with a chance above 0."""
    return is_tuple_of(2, thing) and are_fractions(thing) and thing[1][0] > 0


def are_rising(fractions):
    """Tell whether each of some FRACTIONS is above the one ahead of it."""
    return all([one[0] * other[1] < other[0] * one[1] for one, other in zip(fractions, fractions[1:])])


def is_whole_chance(chances):
    """Tell whether some FRACTIONS are together 1."""
    common = 1
    for _, den in chances:
        common = lcm(common, den)
    return sum([num * (common // den) for num, den in chances]) == common


def is_throw(thing):
    """Tell whether a value is a THROW, with whatever MEAN."""
    if not isinstance(thing, tuple) or not all([is_throw_item(item) for item in thing]):
        return False
    return are_rising([item[0] for item in thing]) and is_whole_chance([item[1] for item in thing])
