"""Whether the results of two plain programs come by the same throw, by whatever error throws."""

from itertools import permutations

from chancegrain.kindcounters import stretched_throw
from chancegrain.lots import error_polynomial
from chancegrain.points import point_off
from chancegrain.polynomials import gathered, minus
from chancegrain.programs import must_be_plain, roundings_of


def must_both_be_plain(one, other):
    """Raise NotPlain for the first one of two programs that is not PLAIN, if there is one."""
    must_be_plain(one)
    must_be_plain(other)


def as_matched(many, matching, one):
    """Return a POLYNOMIAL of so many inputs and of the errors of other, with those of one in their places."""
    factors = {}
    for powers, factor in one:
        errors = powers[many:]
        factors[powers[:many] + tuple([errors[rounding] for rounding in matching])] = factor
    return gathered(factors)


def matchings(one, other):
    """Return the ascending list of the MATCHINGS of two programs that fit."""
    must_both_be_plain(one, other)
    count = len(roundings_of(one))
    if one[0] != other[0] or count != len(roundings_of(other)):
        return []
    first, second = error_polynomial(one), error_polynomial(other)
    return [
        matching for matching in permutations(range(count))
        if as_matched(one[0], matching, second) == first
    ]


def same_throw(one, other):
    """Tell whether some MATCHING of two programs fits."""
    return matchings(one, other) != []


def matched_throws(matching, throws):
    """Return the tuple of the throws of other, those of one standing at what is matched with them."""
    return tuple([throws[matching.index(rounding)] for rounding in range(len(matching))])


def weighing_throws(sizes):
    """Return ERROR THROWS by which each error is its size, or far beyond 0 on the other side.

    Of the tuples of errors that come about, no two unlike lots have the same chance.
    """
    # The chances of the tuples are as unlike powers of 2: the size is 2, 4, 16, 256 .. times
    # as likely as the other side.
    odds = 2
    throws = ()
    for size in sizes:
        throws = throws + (stretched_throw(((-odds, 1), (1, 1)), size),)
        odds = odds * odds
    return throws


def parting_throws(one, other, matching):
    """Return inputs and ERROR THROWS of one by which the results do not come by the same throw.

    It is None if the MATCHING fits.
    """
    must_both_be_plain(one, other)
    gap = minus(error_polynomial(one), as_matched(one[0], matching, error_polynomial(other)))
    if gap == ():
        return None
    # Were the throws the same, each value would have the same chance in both, so it would come by
    # the same errors: but at the point the results are unlike, and its errors come about.
    point = point_off(gap, one[0] + len(roundings_of(one)))
    return (point[:one[0]], weighing_throws(point[one[0]:]))
