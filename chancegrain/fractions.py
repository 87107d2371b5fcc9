"""FRACTIONS: tuples (num, den) of integers in lowest terms, den from 1 on."""

from math import gcd, lcm

from chancegrain.errors import NoQuotient


def reduced(num, den):
    """Return num / den as a FRACTION."""
    if den == 0:
        raise NoQuotient()
    common = gcd(num, den)
    if den < 0:
        common = -common
    return (num // common, den // common)


def added(one, other):
    """Return the sum of two FRACTIONS."""
    return reduced(one[0] * other[1] + other[0] * one[1], one[1] * other[1])


def lessened(one, other):
    """Return the difference of two FRACTIONS."""
    return reduced(one[0] * other[1] - other[0] * one[1], one[1] * other[1])


def times(one, other):
    """Return the product of two FRACTIONS."""
    return reduced(one[0] * other[0], one[1] * other[1])


def over(one, other):
    """Return the quotient of two FRACTIONS."""
    return reduced(one[0] * other[1], one[1] * other[0])


def total_of(fractions):
    """Return the sum of a list or tuple of FRACTIONS."""
    # One common den for all is quicker than to reduce after each of many sums.
    common = 1
    for _, den in fractions:
        common = lcm(common, den)
    return reduced(sum([num * (common // den) for num, den in fractions]), common)


def whole_power(base, count):
    """Return the product of so many times an integer."""
    result = 1
    while count > 0:
        if count % 2 == 1:
            result = result * base
        count = count // 2
        if count > 0:
            base = base * base
    return result


def power_of(one, count):
    """Return the product of so many times a FRACTION."""
    return (whole_power(one[0], count), whole_power(one[1], count))


def size_of(one):
    """Return a FRACTION, or what it is below 0, from 0 on."""
    return (abs(one[0]), one[1])


def whole_below(one):
    """Return the greatest integer that is not above a FRACTION."""
    return one[0] // one[1]


def is_less(one, other):
    """Tell whether one FRACTION is less than another."""
    return one[0] * other[1] < other[0] * one[1]


def least_of(fractions):
    """Return the least of a list or tuple of FRACTIONS."""
    least = fractions[0]
    for one in fractions:
        if is_less(one, least):
            least = one
    return least


def greatest_of(fractions):
    """Return the greatest of a list or tuple of FRACTIONS."""
    greatest = fractions[0]
    for one in fractions:
        if is_less(greatest, one):
            greatest = one
    return greatest


def in_order(fractions):
    """Return the ascending list of the FRACTIONS that stand in a list or tuple."""
    # Unlike fractions with dens of at most d are at least 1 / d ** 2 apart:
    # times d ** 2, no two of them have the same greatest integer below them.
    scale = max([one[1] * one[1] for one in fractions], default=1)
    found = {num * scale // den: (num, den) for num, den in fractions}
    return [found[whole] for whole in sorted(found)]


def is_ahead(one, other):
    """Tell whether one tuple of FRACTIONS is less than another, item by item."""
    for first, second in zip(one, other):
        if first != second:
            return is_less(first, second)
    return len(one) < len(other)
