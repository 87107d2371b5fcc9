"""Programs in which second sides of products are worked out anew, by roundings of their own."""

from chancegrain.errors import TooMany
from chancegrain.programs import must_be_plain, names_no_steps, roundings_of, steps_behind, steps_with
from chancegrain.right import is_right

MOST_PRODUCTS = 6


def renamed(step, places):
    """Return a step with its sides exchanged for those that a dict tells for them."""
    if names_no_steps(step):
        return step
    return step[:1] + tuple([places.get(side, side) for side in step[1:]])


def thrown_steps(written):
    """Return the dict from the indexes of steps that are roundings, or for which one is needed, to True."""
    thrown = {}
    for index, step in enumerate(written):
        sides = () if names_no_steps(step) else step[1:]
        if step[0] == "round" or any([side in thrown for side in sides]):
            thrown[index] = True
    return thrown


def copied_steps(many, written, side):
    """Return the ascending list of the steps that are copied to work out a side anew."""
    thrown = thrown_steps(written)
    return [index for index in steps_behind((many, tuple(written)), side, ()) if index in thrown]


def anew(program, lot):
    """Return the program in which the second sides of the products of a lot are worked out once more."""
    must_be_plain(program)
    written = []
    places = {}
    for index, step in enumerate(program[1]):
        step = renamed(step, places)
        if index in lot:
            copies = {}
            for earlier in copied_steps(program[0], written, step[2]):
                copies[earlier] = len(written)
                written.append(renamed(written[earlier], copies))
            step = (step[0], step[1], copies.get(step[2], step[2]))
        places[index] = len(written)
        written.append(step)
    return (program[0], tuple(written))


def anew_roundings(program, lot):
    """Return how many roundings more there are when a lot is worked out anew."""
    return len(roundings_of(anew(program, lot))) - len(roundings_of(program))


def sub_lots(indexes):
    """Return the list of all lots of some indexes, none behind one that lies in it."""
    lots = [()]
    for index in indexes:
        lots = lots + [lot + (index,) for lot in lots]
    return lots


def lies_in(one, other):
    """Tell whether a lot lies in another one."""
    return all([index in other for index in one])


def least_anew(program):
    """Return the ascending list of the least lots by which a program becomes RIGHT."""
    must_be_plain(program)
    products = steps_with(program, "times")
    if len(products) > MOST_PRODUCTS:
        raise TooMany(MOST_PRODUCTS)
    found = []
    for lot in sub_lots(products):
        if not any([lies_in(one, lot) for one in found]) and is_right(anew(program, lot)):
            found.append(lot)
    return sorted(found)
