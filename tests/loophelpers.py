"""What the tests of loops need: drawn loops and rules, and an independent reckoning."""

from fractions import Fraction

from chancegrain.forms import is_program
from tests.helpers import fraction_of, number, plain_worth, some_throw

WORDS = ["sum", "less", "sum", "less", "times", "round"]
HALF, ONE, ZERO = (1, 2), (1, 1), (0, 1)


def steps_many(loop):
    return len([step for step in loop[1] if step[0] == "round"])


def some_loop(chance, many, count, most=2, words=WORDS):
    """A loop of so many states and steps with at most so many roundings in a round."""
    while True:
        steps = [("input", at) for at in range(many)]
        steps.append(("told", fraction_of(Fraction(chance.choice([-2, -1, 1, 2]), chance.randint(1, 2)))))
        while len(steps) < count:
            word = chance.choice(words)
            named = [max(chance.randrange(len(steps)), chance.randrange(len(steps))) for _ in range(2)]
            steps.append((word,) + tuple(named[:1 if word == "round" else 2]))
        nexts = tuple([chance.randrange(len(steps)) for _ in range(many)])
        loop = (many, tuple(steps), nexts)
        if steps_many(loop) <= most and is_program(loop[:2]):
            return loop


def some_goal(chance, many, members, most):
    """A polynomial of so many variables with at most so many members, no power above most."""
    factors = {}
    for _ in range(members):
        powers = tuple([chance.randint(0, most) for _ in range(many)])
        factors[powers] = fraction_of(Fraction(chance.choice([-2, -1, 1, 3]), chance.randint(1, 2)))
    return tuple([(powers, factors[powers]) for powers in sorted(factors)])


def plain_round(loop, states, items):
    """The states behind a round, and the arguments of its roundings; exact behind the items."""
    values, arguments, items = [], [], list(items)
    for step in loop[1]:
        word = step[0]
        if word == "input":
            values.append(states[step[1]])
        elif word == "told":
            values.append(number(step[1]))
        elif word == "round":
            arguments.append(values[step[1]])
            values.append(items.pop(0) if items else values[step[1]])
        else:
            one, other = values[step[1]], values[step[2]]
            values.append(one + other if word == "sum" else one - other if word == "less" else one * other)
    return [values[at] for at in loop[2]], arguments


def plain_goal(goal, states):
    return plain_worth(goal, [fraction_of(state) for state in states])


def plain_argument(loop, values, past):
    """The argument of the rounding behind a past of perhaps several rounds."""
    states, many = [number(value) for value in values], steps_many(loop)
    past = [number(item) for item in past]
    while len(past) >= many:
        states, _ = plain_round(loop, states, past[:many])
        past = past[many:]
    return plain_round(loop, states, past)[1][len(past)]


def plain_runs(loop, values, count, rule):
    """The list of (past, chance, states) behind so many rounds, by an independent reckoning."""
    runs = [((), Fraction(1), [number(value) for value in values])]
    many = steps_many(loop)
    for _ in range(count):
        behind = []
        for past, share, states in runs:
            partial = [((), share)]
            for _ in range(many):
                longer = []
                for items, part in partial:
                    argument = plain_round(loop, states, [number(item) for item in items])[1][len(items)]
                    for value, chance in rule.get(past + items, ((fraction_of(argument), ONE),)):
                        longer.append((items + (value,), part * number(chance)))
                partial = longer
            for items, part in partial:
                behind.append((past + items, part, plain_round(loop, states, [number(item) for item in items])[0]))
        runs = behind
    return runs


def plain_mean(loop, goal, values, count, rule):
    return sum(share * plain_goal(goal, states) for _, share, states in plain_runs(loop, values, count, rule))


def exact_worth(loop, goal, values, count):
    states = [number(value) for value in values]
    for _ in range(count):
        states, _ = plain_round(loop, states, [])
    return plain_goal(goal, states)


def some_loop_rule(chance, loop, values, items, keys):
    """A rule that looks back over several rounds, with about so many keys of fewer than so many items."""
    rule, waiting = {}, [()]
    while waiting and len(rule) < keys and steps_many(loop):
        past = waiting.pop(chance.randrange(len(waiting)))
        if len(past) >= items:
            continue
        throw = some_throw(chance, fraction_of(plain_argument(loop, values, past)))
        if len(throw) > 1 or chance.random() < 0.5:
            rule[past] = throw
        waiting.extend([past + (value,) for value, _ in throw])
    return rule
