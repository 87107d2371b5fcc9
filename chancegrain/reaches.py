"""What roundings can come to if their values are multiples of grains."""

from chancegrain.errors import TooMany
from chancegrain.fractions import added, lessened, over, times, whole_below
from chancegrain.rules import is_rule
from chancegrain.spread import is_throw_within
from chancegrain.walking import Walk, all_throws
from chancegrain.worths import argument_of

MOST_PASTS = 20000


def counts_around(number, grain, width):
    """Return the least and the greatest integer whose product with a grain is within a width of a number.

    If there is none, the least is greater by 1.
    """
    least = -whole_below(over(lessened(width, number), grain))
    return least, whole_below(over(added(number, width), grain))


def multiples(number, grain, width):
    """Return the ascending tuple of the multiples of a grain that are within a width of a number."""
    least, greatest = counts_around(number, grain, width)
    return tuple([times((count, 1), grain) for count in range(least, greatest + 1)])


def multiples_many(number, grain, width):
    """Return how many multiples of a grain are within a width of a number."""
    least, greatest = counts_around(number, grain, width)
    return greatest + 1 - least


def next_values(program, inputs, grains, past):
    """Return the ascending tuple of the values that CAN COME NEXT behind a past."""
    grain, width = grains[len(past)]
    return multiples(argument_of(program, inputs, past), grain, width)


def reached_next(walk, grain, width, reached):
    """Return what can be reached by the next rounding, from the list of tuples (past, where one stands)."""
    return [
        (past + (value,), walk.behind(told, value))
        for past, told in reached
        for value in multiples(walk.argument(told), grain, width)
    ]


def must_be_few(program, inputs, grains):
    """Raise TooMany if more than 20,000 pasts are ON GRAINS."""
    walk = Walk(program, inputs)
    reached = [((), walk.begun())]
    many = 1
    for count, (grain, width) in enumerate(grains):
        # There may be far too many of them, so they are counted ahead of being written down.
        many += sum([multiples_many(walk.argument(told), grain, width) for _, told in reached])
        if many > MOST_PASTS:
            raise TooMany(MOST_PASTS)
        if count + 1 < len(grains):
            reached = reached_next(walk, grain, width, reached)


def grain_pasts(program, inputs, grains, count):
    """Return the ascending list of the pasts ON GRAINS that have so many items."""
    must_be_few(program, inputs, grains)
    walk = Walk(program, inputs)
    reached = [((), walk.begun())]
    for grain, width in grains[:count]:
        reached = reached_next(walk, grain, width, reached)
    return [past for past, _ in reached]


def is_throw_on(argument, throw, grain, width):
    """Tell whether all values of a throw are multiples of a grain, within a width of an argument."""
    if not is_throw_within(argument, throw, width):
        return False
    return all([over(value, grain)[1] == 1 for value, _ in throw])


def is_on_grains(program, inputs, grains, thing):
    """Tell whether a value is a RULE at inputs that is ON GRAINS."""
    if not is_rule(program, inputs, thing):
        return False
    return all_throws(program, inputs, thing, lambda rounding, argument, throw: (
        is_throw_on(argument, throw, grains[rounding][0], grains[rounding][1])
    ))
