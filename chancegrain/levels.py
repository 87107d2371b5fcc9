"""Levels of a loop's states, and weights that no exact round makes greater."""

from chancegrain.errors import NotByLevels
from chancegrain.loops import exact_round


def hangs_of(exact):
    """Return the list of tuples (state, other, strictly) of what the states of exact rounds hang on."""
    return [
        (state, other, 0 if sum(powers) == 1 else 1)
        for state, one in enumerate(exact)
        for powers, _ in one
        for other, power in enumerate(powers)
        if power > 0
    ]


def reached_from(hangs, start):
    """Return the dict from a state, and all on which it hangs by some way, to True."""
    reached = {start: True}
    waiting = [start]
    while len(waiting) > 0:
        state = waiting.pop()
        for one, other, _ in hangs:
            if one == state and other not in reached:
                reached[other] = True
                waiting.append(other)
    return reached


def must_be_by_levels(loop):
    """Raise NotByLevels with the least state that hangs on itself at least once strictly, if there is one."""
    hangs = hangs_of(exact_round(loop))
    reached = [reached_from(hangs, state) for state in range(loop[0])]
    for start in range(loop[0]):
        for state, other, strictly in hangs:
            if strictly == 1 and state in reached[start] and start in reached[other]:
                raise NotByLevels(start)


def levels_of(loop):
    """Return the least LEVELS of a loop."""
    must_be_by_levels(loop)
    hangs = hangs_of(exact_round(loop))
    # No way to a state itself is strict, so what begins at 0 and only rises comes to rest.
    former, levels = None, (0,) * loop[0]
    while levels != former:
        former = levels
        levels = tuple([
            max([0] + [former[other] + strictly for one, other, strictly in hangs if one == state])
            for state in range(loop[0])
        ])
    return levels


def weight_of(powers, weights):
    """Return the weight of a member with some powers."""
    return sum([power * weight for power, weight in zip(powers, weights)])


def weights_of(loop):
    """Return the WEIGHTS of a loop."""
    must_be_by_levels(loop)
    exact = exact_round(loop)
    former, weights = None, (1,) * loop[0]
    while weights != former:
        former = weights
        weights = tuple([
            max([weight] + [weight_of(powers, former) for powers, _ in one])
            for weight, one in zip(former, exact)
        ])
    return weights


def tuples_many(weights, room):
    """Return how many tuples of powers there are whose weight is at most room."""
    if len(weights) == 1:
        return room // weights[0] + 1
    return sum([tuples_many(weights[1:], room - left) for left in range(0, room + 1, weights[0])])


def members_many(loop, goal):
    """Return how many tuples of powers are at most as heavy as the heaviest member of a goal."""
    weights = weights_of(loop)
    if goal == ():
        return 0
    room = max([weight_of(powers, weights) for powers, _ in goal])
    return tuples_many(sorted(weights, reverse=True), room)
