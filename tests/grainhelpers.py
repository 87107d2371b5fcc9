"""What the tests of grains need: drawn grains and rules, and an independent reckoning."""

from fractions import Fraction
from itertools import product
from math import ceil, floor

from tests.helpers import fraction_of, number, plain_values, roundings_many, some_program

WORDS = ["sum", "less", "times", "round", "round", "choice"]
HALF, ONE, ZERO = (1, 2), (1, 1), (0, 1)


def plain_multiples(value, grain, width):
    return [grain * at for at in range(ceil((value - width) / grain), floor((value + width) / grain) + 1)]


def plain_argument(program, inputs, past):
    steps = [step for step in program[1] if step[0] == "round"]
    return plain_values(program, inputs, past)[steps[len(past)][1]]


def plain_next(program, inputs, grains, past, lot=None):
    """The values that can come next, as the library has them; just the argument for roundings not in the lot."""
    argument = plain_argument(program, inputs, past)
    if lot is not None and len(past) not in lot:
        return [argument]
    grain, width = grains[len(past)]
    return plain_multiples(argument, number(grain), number(width))


def plain_pasts(program, inputs, grains, count):
    pasts = [()]
    for _ in range(count):
        pasts = [past + (fraction_of(value),) for past in pasts for value in plain_next(program, inputs, grains, past)]
    return pasts


def all_pasts_many(program, inputs, grains):
    return sum(len(plain_pasts(program, inputs, grains, count)) for count in range(len(grains) + 1))


def plain_best(program, inputs, grains, pick, past=(), lot=None):
    """The greatest or the least mean, by all pairs of values around each argument."""
    if len(past) == roundings_many(program):
        return plain_values(program, inputs, past)[-1]
    argument = plain_argument(program, inputs, past)
    worths = {
        value: plain_best(program, inputs, grains, pick, past + (fraction_of(value),), lot)
        for value in plain_next(program, inputs, grains, past, lot)
    }
    found = [worths[argument]] if argument in worths else []
    for low in worths:
        for high in worths:
            if low < argument < high:
                found.append(((high - argument) * worths[low] + (argument - low) * worths[high]) / (high - low))
    return pick(found)


def throws_of_two(argument, values):
    """All throws of at most two of the values with this mean."""
    found = [((fraction_of(argument), ONE),)] if argument in values else []
    for low in values:
        for high in values:
            if low < argument < high:
                share = (argument - low) / (high - low)
                found.append(((fraction_of(low), fraction_of(1 - share)), (fraction_of(high), fraction_of(share))))
    return found


def all_rules(program, inputs, grains):
    """All rules on grains whose throws have at most two values, with a throw at each past on grains."""
    pasts = [past for count in range(len(grains)) for past in plain_pasts(program, inputs, grains, count)]
    throws = [
        throws_of_two(plain_argument(program, inputs, past), plain_next(program, inputs, grains, past))
        for past in pasts
    ]
    return pasts, throws, (dict(zip(pasts, told)) for told in product(*throws))


def mixed_throw(chance, throws):
    """A mean of some throws."""
    shares = {}
    told = [chance.choice(throws) for _ in range(chance.randint(1, 3))]
    for throw in told:
        for value, share in throw:
            shares[number(value)] = shares.get(number(value), 0) + number(share) / len(told)
    return tuple([(fraction_of(value), fraction_of(shares[value])) for value in sorted(shares)])


def some_grain_rule(chance, program, inputs, grains):
    """A rule on grains that looks back at all that was thrown; some keys that are sure are left out."""
    rule, waiting = {}, [()]
    while waiting:
        past = waiting.pop()
        if len(past) == len(grains):
            continue
        argument = plain_argument(program, inputs, past)
        throw = mixed_throw(chance, throws_of_two(argument, plain_next(program, inputs, grains, past)))
        if len(throw) > 1 or chance.random() < 0.5:
            rule[past] = throw
        waiting.extend([past + (value,) for value, _ in throw])
    return rule


def some_grains(chance, many, most=5):
    found = []
    for _ in range(many):
        grain = Fraction(chance.randint(1, 4), chance.randint(1, 3))
        width = grain * Fraction(chance.randint(2, most), 2)
        found.append((fraction_of(grain), fraction_of(width)))
    return tuple(found)


def some_case(chance, most=5, words=WORDS, count=9):
    """A program, inputs and grains, with a few hundred pasts on grains at most."""
    while True:
        program = some_program(chance, 2, count, words)
        inputs = tuple([fraction_of(Fraction(chance.randint(-4, 4), chance.randint(1, 3))) for _ in range(2)])
        grains = some_grains(chance, roundings_many(program), most)
        if all_pasts_many(program, inputs, grains) <= 200:
            return program, inputs, grains


def choosing(limit):
    """A rounding, squared where it is not less than a limit, otherwise 0."""
    return (1, (
        ("input", 0), ("round", 0), ("told", limit), ("less", 1, 2), ("times", 1, 1), ("told", ZERO),
        ("choice", 3, 4, 5),
    ))


# One rounding of the input; two roundings, the second one of half the first one and the other input.
SINGLE = (1, (("input", 0), ("round", 0), ("times", 1, 1)))
LATER = (2, (
    ("input", 0), ("input", 1), ("round", 0), ("told", HALF), ("times", 2, 3), ("sum", 4, 1), ("round", 5),
    ("times", 6, 2),
))
APART = (2, (("input", 0), ("input", 1), ("round", 0), ("round", 1), ("times", 2, 3)))


def just_enough():
    """Programs, inputs and grains with just 20,000 pasts on grains in all, and () among them."""
    return [
        (SINGLE, (ZERO,), ((ONE, (9999, 1)),)),
        (SINGLE, ((1, 3),), (((1, 7), (29998, 21)),)),
        (APART, (ZERO, HALF), ((ONE, (3, 1)), (ONE, (2855, 2)))),
    ]


def just_too_many():
    """The same with just 20,001, and with far more."""
    return [
        (SINGLE, (HALF,), ((ONE, (19999, 2)),)),
        (APART, (ZERO, ZERO), ((ONE, (2, 1)), (ONE, (1999, 1)))),
        (SINGLE, (ZERO,), ((ONE, (10 ** 50, 1)),)),
        (APART, (ZERO, ZERO), (((1, 10 ** 50), ONE), (ONE, ONE))),
    ]
