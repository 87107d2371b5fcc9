"""How far a mild program can be off, errors being of limited sizes."""

from chancegrain.errors import NotMild
from chancegrain.fractions import is_less, lessened, power_of, size_of, total_of
from chancegrain.kinds import bad_lots
from chancegrain.lots import error_lots, lots_at
from chancegrain.polynomials import member_worth, worth_at
from chancegrain.programs import must_be_plain
from chancegrain.rules import is_rule, two_throw
from chancegrain.worths import argument_of

ZERO = (0, 1)


def must_be_mild(program):
    """Raise NotPlain, or NotMild with the least lot that shows it, if a program is not so."""
    must_be_plain(program)
    bad = bad_lots(program, "mild")
    if bad != []:
        raise NotMild(bad[0])


def square_parts(program, inputs, widths):
    """Return the dict from each error lot to its part of the greatest SQUARE WITHIN widths."""
    must_be_mild(program)
    parts = {}
    for lot, factor in error_lots(program).items():
        parts[lot] = power_of(member_worth(lot, worth_at(factor, inputs), widths), 2)
    return parts


def square_by(worths, widths):
    """Return the greatest SQUARE WITHIN widths, worths being those of the factors of error lots."""
    return total_of([power_of(member_worth(lot, worth, widths), 2) for lot, worth in worths.items()])


def greatest_square(program, inputs, widths):
    """Return the greatest SQUARE of all rules at inputs WITHIN widths."""
    must_be_mild(program)
    return square_by(lots_at(program, inputs), widths)


def below_zero(one):
    """Return a FRACTION below 0 for one above it."""
    return (-one[0], one[1])


def widest_throws(program, widths):
    """Return the ERROR THROWS by which each error is its width, and as likely its width below 0."""
    must_be_mild(program)
    return tuple([two_throw(below_zero(width), ZERO, width) for width in widths])


def widest_errors(widths):
    """Return the ascending list of the tuples of errors that are widths, or widths below 0."""
    found = [()]
    for width in widths:
        sides = [width] if width == ZERO else [below_zero(width), width]
        found = [errors + (side,) for errors in found for side in sides]
    return found


def error_size(worths, errors):
    """Return the size of the result's error, worths being those of the factors of lots."""
    return size_of(total_of([member_worth(lot, worth, errors) for lot, worth in worths.items()]))


def worst_and_size(program, inputs, widths):
    """Return the least widest errors that make the result's error greatest, and its size."""
    must_be_mild(program)
    worths = lots_at(program, inputs)
    worst, greatest = None, None
    for errors in widest_errors(widths):
        size = error_size(worths, errors)
        if worst is None or is_less(greatest, size):
            worst, greatest = errors, size
    return worst, greatest


def greatest_error(program, inputs, widths):
    """Return the greatest size of an error of the result, over all errors WITHIN widths."""
    _, greatest = worst_and_size(program, inputs, widths)
    return greatest


def worst_errors(program, inputs, widths):
    """Return the least tuple of errors, each its width or its width below 0, that has the greatest size."""
    worst, _ = worst_and_size(program, inputs, widths)
    return worst


def is_throw_within(argument, throw, width):
    """Tell whether no value of a throw differs from an argument by more than a width."""
    return not any([is_less(width, size_of(lessened(value, argument))) for value, _ in throw])


def is_within(program, inputs, widths, thing):
    """Tell whether a value is a RULE at inputs WITHIN widths."""
    must_be_mild(program)
    if not is_rule(program, inputs, thing):
        return False
    return all([
        is_throw_within(argument_of(program, inputs, past), throw, widths[len(past)])
        for past, throw in thing.items()
    ])
