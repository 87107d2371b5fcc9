"""The result of a plain program as a polynomial of inputs and errors, and its lots of errors."""

from chancegrain.polynomials import plus, unit, worth_at
from chancegrain.programs import must_be_plain, roundings_of, steps_behind
from chancegrain.rounded import step_polynomial


def result_by(program, many, inputs, errors):
    """Return the result as a POLYNOMIAL of so many variables, lists of such being told for inputs and errors."""
    roundings = roundings_of(program)
    last = len(program[1]) - 1
    found = {}
    for index in steps_behind(program, last, ()):
        step = program[1][index]
        found[index] = inputs[step[1]] if step[0] == "input" else step_polynomial(step, many, found)
        if index in roundings:
            found[index] = plus(found[index], errors[roundings.index(index)])
    return found[last]


def error_polynomial(program):
    """Return the result as a POLYNOMIAL of inputs and ERRORS."""
    must_be_plain(program)
    many = program[0] + len(roundings_of(program))
    units = [unit(many, place) for place in range(many)]
    return result_by(program, many, units[:program[0]], units[program[0]:])


def error_lots(program):
    """Return the dict from the ERROR LOTS to their factors."""
    members = {}
    for powers, factor in error_polynomial(program):
        inputs, lot = powers[:program[0]], powers[program[0]:]
        if any(lot):
            members.setdefault(lot, []).append((inputs, factor))
    # The members of a polynomial are ascending, so those of each lot are.
    return {lot: tuple(members[lot]) for lot in sorted(members)}


def lots_at(program, inputs):
    """Return the dict from the ERROR LOTS whose factor is not 0 at inputs to its worth."""
    lots = error_lots(program)
    worths = {lot: worth_at(factor, inputs) for lot, factor in lots.items()}
    return {lot: worth for lot, worth in worths.items() if worth[0] != 0}


def merged_lot(lot, classes):
    """Return a lot with a number for each class: the sum of those of its roundings."""
    numbers = [0] * (max(classes) + 1)
    for number, label in zip(lot, classes):
        numbers[label] += number
    return tuple(numbers)


def merged_lots(program, classes):
    """Return what error_lots would if all roundings of one class had one and the same error."""
    merged = {}
    for lot, factor in error_lots(program).items():
        key = merged_lot(lot, classes)
        merged[key] = plus(merged.get(key, ()), factor)
    return {lot: merged[lot] for lot in sorted(merged) if merged[lot] != ()}
