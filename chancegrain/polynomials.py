"""POLYNOMIALS: ascending tuples of members (powers, factor)."""

from math import lcm

from chancegrain.fractions import added, power_of, reduced, times, total_of


def unit(many, place):
    """Return the variable at a place as a POLYNOMIAL of so many."""
    powers = tuple([1 if at == place else 0 for at in range(many)])
    return ((powers, (1, 1)),)


def constant(many, fraction):
    """Return a FRACTION as a POLYNOMIAL of so many variables."""
    if fraction[0] == 0:
        return ()
    return (((0,) * many, fraction),)


def gathered(factors):
    """Return the POLYNOMIAL of a dict from powers to factors, some perhaps 0."""
    return tuple([(powers, factors[powers]) for powers in sorted(factors) if factors[powers][0] != 0])


def plus(one, other):
    """Return the sum of two POLYNOMIALS."""
    factors = {powers: factor for powers, factor in one}
    for powers, factor in other:
        factors[powers] = added(factors.get(powers, (0, 1)), factor)
    return gathered(factors)


def scaled(one, fraction):
    """Return the product of a POLYNOMIAL with a FRACTION."""
    if fraction[0] == 0:
        return ()
    return tuple([(powers, times(factor, fraction)) for powers, factor in one])


def minus(one, other):
    """Return the difference of two POLYNOMIALS."""
    return plus(one, scaled(other, (-1, 1)))


def common_den(one):
    """Return an integer from 1 on that all dens of the factors divide."""
    common = 1
    for _, factor in one:
        common = lcm(common, factor[1])
    return common


def whole_members(one, common):
    """Return the members with their factors times a common den, as integers."""
    return [(powers, num * (common // den)) for powers, (num, den) in one]


def multiplied(one, other):
    """Return the product of two POLYNOMIALS."""
    # Only integers are multiplied within the loops, where most of the time goes.
    first, second = common_den(one), common_den(other)
    others = whole_members(other, second)
    nums = {}
    for powers, num in whole_members(one, first):
        for more, by in others:
            key = tuple([count + further for count, further in zip(powers, more)])
            nums[key] = nums.get(key, 0) + num * by
    return gathered({powers: reduced(nums[powers], first * second) for powers in nums})


def raised(many, one, count):
    """Return the product of so many times a POLYNOMIAL of so many variables."""
    result = constant(many, (1, 1))
    while count > 0:
        if count % 2 == 1:
            result = multiplied(result, one)
        count = count // 2
        if count > 0:
            one = multiplied(one, one)
    return result


def parts_by(one, place):
    """Return the dict from each power of the variable at a place to its part_by."""
    found = {}
    for powers, factor in one:
        rest = powers[:place] + (0,) + powers[place + 1:]
        found.setdefault(powers[place], []).append((rest, factor))
    return {count: tuple(found[count]) for count in found}


def part_by(one, place, count):
    """Return with what the so-manieth power of a variable stands in a POLYNOMIAL."""
    return parts_by(one, place).get(count, ())


def put_in(one, place, other):
    """Return a POLYNOMIAL with another one in the place of a variable."""
    if one == ():
        return ()
    many = len(one[0][0])
    parts = parts_by(one, place)
    counts = sorted(parts, reverse=True)
    result = ()
    for count, lower in zip(counts, counts[1:] + [0]):
        result = multiplied(plus(result, parts[count]), raised(many, other, count - lower))
    return result


def member_worth(powers, factor, values):
    """Return what a member comes to."""
    worth = factor
    for value, count in zip(values, powers):
        if count > 0:
            worth = times(worth, power_of(value, count))
    return worth


def worth_at(one, values):
    """Return what a POLYNOMIAL comes to, a FRACTION being given for each variable."""
    return total_of([member_worth(powers, factor, values) for powers, factor in one])


def degree_in(one, place):
    """Return the greatest power of the variable at a place."""
    return max([member[0][place] for member in one], default=0)
