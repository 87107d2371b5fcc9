"""What moves of roundings do to the kind of a program, and to how far it can be off."""

from chancegrain.errors import TooMany
from chancegrain.fractions import is_less
from chancegrain.kinds import bars, kind_of
from chancegrain.lots import error_lots, result_by
from chancegrain.moves import moved, moves_of
from chancegrain.polynomials import constant, degree_in, unit, worth_at
from chancegrain.programs import must_be_plain, roundings_of
from chancegrain.spread import square_by

MOST_PROGRAMS = 300


def kinds_behind(program):
    """Return the dict from the moves of a program to the kind behind each."""
    must_be_plain(program)
    return {move: kind_of(moved(program, move)) for move in moves_of(program)}


def by_one_error(program, rounding):
    """Return the result as a POLYNOMIAL of the error of one rounding, some numbers standing for all else."""
    inputs = [constant(1, (place + 2, 1)) for place in range(program[0])]
    errors = [constant(1, (2 * place + 7, 1)) for place in range(len(roundings_of(program)))]
    errors[rounding] = unit(1, 0)
    return result_by(program, 1, inputs, errors)


def is_bent_by_one(program):
    """Tell whether such a POLYNOMIAL shows that a program is not MILD; if none does, it may be so or not."""
    return any([degree_in(by_one_error(program, rounding), 0) > 1 for rounding in range(len(roundings_of(program)))])


def mild_square(program, inputs, width):
    """Return the greatest SQUARE of a MILD program, all widths being one, None if it is not MILD."""
    # The polynomials of programs that are not MILD can be very long: most of these end here.
    if is_bent_by_one(program):
        return None
    lots = error_lots(program)
    if any([bars(lot, "mild") for lot in lots]):
        return None
    worths = {lot: worth_at(factor, inputs) for lot, factor in lots.items()}
    return square_by(worths, (width,) * len(roundings_of(program)))


def squares_behind(program, inputs, width):
    """Return the dict from the moves behind which a program is MILD to its greatest SQUARE there."""
    must_be_plain(program)
    squares = {move: mild_square(moved(program, move), inputs, width) for move in moves_of(program)}
    return {move: square for move, square in squares.items() if square is not None}


def ways_to_all(program, words, most):
    """Return the dict from all programs that come of one by at most so many moves to the moves that lead there.

    These are as few as can be, and of these the least tuple; the dict is ascending by both.
    """
    # The least way to a program begins with the least way to the one ahead of it. So if the
    # programs of one length are gone through in the order of their ways, the first way is the least.
    ways = {program: ()}
    reached = [program]
    for _ in range(most):
        further = []
        for one in reached:
            for move in [told for told in moves_of(one) if told[0] in words]:
                other = moved(one, move)
                if other not in ways:
                    ways[other] = ways[one] + (move,)
                    further.append(other)
                    if len(ways) > MOST_PROGRAMS:
                        raise TooMany(MOST_PROGRAMS)
        reached = further
    return ways


def least_by_moves(program, inputs, width, words, most):
    """Return the least greatest SQUARE of all MILD programs that come of one by few moves, and these.

    It is None if none of them is MILD.
    """
    must_be_plain(program)
    least, least_way = None, ()
    for one, way in ways_to_all(program, words, most).items():
        square = mild_square(one, inputs, width)
        if square is not None and (least is None or is_less(square, least)):
            least, least_way = square, way
    return None if least is None else (least, least_way)
