"""Moves of roundings that leave the exact result as it is."""

from chancegrain.anew import renamed
from chancegrain.programs import roundings_of

# With so many roundings a program gets no further ones.
MOST_ROUNDINGS = 5


def arguments_of(program):
    """Return the tuple of the indexes of the steps that the roundings have as arguments."""
    return tuple([program[1][index][1] for index in roundings_of(program)])


def join_moves(arguments):
    """Return the list of the moves that join two roundings of one step."""
    return [
        ("join", one, other)
        for other, argument in enumerate(arguments)
        for one in range(other)
        if arguments[one] == argument
    ]


def over_moves(program, arguments):
    """Return the list of the moves that round both sides of a sum or a difference."""
    return [
        ("over", rounding) for rounding, argument in enumerate(arguments)
        if program[1][argument][0] in ("sum", "less")
    ]


def has_told_side(program, step):
    """Tell whether a step is a product with a told side."""
    return step[0] == "times" and "told" in [program[1][side][0] for side in step[1:]]


def scale_moves(program, arguments):
    """Return the list of the moves that round the other side of a product with a told one."""
    return [
        ("scale", rounding) for rounding, argument in enumerate(arguments)
        if has_told_side(program, program[1][argument])
    ]


def put_moves(program, arguments):
    """Return the list of the moves that round what has not been rounded."""
    return [
        ("put", index) for index, step in enumerate(program[1])
        if step[0] not in ("told", "round") and index not in arguments
    ]


def moves_of(program):
    """Return the ascending list of the moves of a program."""
    arguments = arguments_of(program)
    found = [("drop", rounding) for rounding in range(len(arguments))] + join_moves(arguments)
    found = found + scale_moves(program, arguments)
    if len(arguments) < MOST_ROUNDINGS:
        found = found + over_moves(program, arguments) + put_moves(program, arguments)
    return sorted(found)


def index_moved(program, move):
    """Return the index of the step that a move exchanges."""
    if move[0] == "put":
        return move[1]
    return roundings_of(program)[move[-1]]


def over_steps(ahead, argument):
    """Return the steps that round both sides of an argument, so many steps standing ahead."""
    word, one, other = argument
    return [("round", one), ("round", other), (word, ahead, ahead + 1)]


def scale_steps(ahead, argument, is_first_told):
    """Return the steps that round one side of an argument, so many steps standing ahead."""
    word, one, other = argument
    if is_first_told:
        return [("round", other), (word, one, ahead)]
    return [("round", one), (word, ahead, other)]


def exchange(move, step, written):
    """Return the steps that stand in the place of the one that a move exchanges, all steps ahead being written.

    If there are none, what is used in its place is told by another way.
    """
    ahead = len(written)
    if move[0] == "put":
        return [step, ("round", ahead)]
    argument = written[step[1]]
    if move[0] == "over":
        return over_steps(ahead, argument)
    if move[0] == "scale":
        return scale_steps(ahead, argument, written[argument[1]][0] == "told")
    return []


def place_used(program, move, step, places):
    """Return the place of what is used instead of a step that is left out."""
    if move[0] == "drop":
        return step[1]
    return places[roundings_of(program)[move[1]]]


def with_result(steps, place):
    """Return the tuple of steps that have the one at a place as their result."""
    if place == len(steps) - 1:
        return tuple(steps)
    return tuple(steps) + (("told", (0, 1)), ("sum", place, len(steps)))


def moved(program, move):
    """Return the program behind a move."""
    at = index_moved(program, move)
    written = []
    places = {}
    for index, step in enumerate(program[1]):
        step = renamed(step, places)
        steps = exchange(move, step, written) if index == at else [step]
        written.extend(steps)
        places[index] = len(written) - 1 if steps != [] else place_used(program, move, step, places)
    return (program[0], with_result(written, places[len(program[1]) - 1]))
