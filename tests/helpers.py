"""What several tests need: odd values, parts exchanged, numbers as the library has them."""

from fractions import Fraction

from chancegrain.errors import ChanceError, NoQuotient, Wrong
from chancegrain.kinds import is_mild
from chancegrain.programs import roundings_of
from chancegrain.worths import argument_of


def nested(depth):
    thing = []
    for _ in range(depth):
        thing = [thing]
    return thing


def odd_values():
    """Values of all kinds that a caller may hand in."""
    return [
        None, True, False, 0, 1, -1, 2, 10 ** 40 - 1, "", "input", "round", "1/2", "a\nb", [], (), {},
        [1, 2], (1, 2), (0, 1), (2, 4), (1, -2), (1, 0), (True, 1), (1, True), ((),), ((1, 1),), [(1, 1)],
        {"a": 1}, {(): ()}, {((1, 1),): (((1, 1), (1, 1)),)}, ((1, 1), (1, 1)), (((1, 1), (1, 1)),),
        ("input", 0), ("told", (1, 2)), Wrong(0), NoQuotient(), ChanceError(), (Wrong(0),), nested(19),
    ]


def exchanged(thing, others):
    """The thing with each part, in turn, exchanged for each of the others, left out or doubled."""
    found = list(others)
    if isinstance(thing, tuple):
        found.append(list(thing))
        for at, part in enumerate(thing):
            found.append(thing[:at] + thing[at + 1:])
            found.append(thing[:at] + (part, part) + thing[at + 1:])
            for other in exchanged(part, others):
                found.append(thing[:at] + (other,) + thing[at + 1:])
    return found


def number(fraction):
    return Fraction(fraction[0], fraction[1])


def fraction_of(value):
    value = Fraction(value)
    return (value.numerator, value.denominator)


def whole(value):
    return (value, 1)


def some_program(chance, many, count, words):
    """A program with so many inputs and steps, its words taken from some, with one to three roundings."""
    while True:
        steps = [("input", at) for at in range(many)]
        steps.append(("told", fraction_of(Fraction(chance.randint(-4, 4), chance.randint(1, 3)))))
        while len(steps) < count:
            word = chance.choice(words)
            # Late steps are named more often, so that more of them matter.
            named = [max(chance.randrange(len(steps)), chance.randrange(len(steps))) for _ in range(3)]
            steps.append((word,) + tuple(named[:{"round": 1, "choice": 3}.get(word, 2)]))
        program = (many, tuple(steps))
        if 1 <= len([step for step in steps if step[0] == "round"]) <= 3:
            return program


def mild_program(chance):
    while True:
        program = some_program(chance, 2, 9, ["sum", "less", "times", "round", "round"])
        if is_mild(program):
            return program


def some_inputs(chance, many):
    return tuple([fraction_of(Fraction(chance.randint(-5, 5), chance.randint(1, 3))) for _ in range(many)])


def some_throw(chance, mean):
    """A throw of one to three values with this mean."""
    value = number(mean)
    low = Fraction(chance.randint(1, 6), chance.randint(1, 3))
    high = Fraction(chance.randint(1, 6), chance.randint(1, 3))
    shares = {value - low: high / (low + high), value + high: low / (low + high)}
    kind = chance.randrange(3)
    if kind == 0:
        shares = {value: Fraction(1)}
    if kind == 1:
        shares = {at: share * Fraction(2, 3) for at, share in shares.items()}
        shares[value] = Fraction(1, 3)
    return tuple([(fraction_of(at), fraction_of(shares[at])) for at in sorted(shares)])


def some_rule(chance, program, inputs):
    """A rule that looks back at all that was thrown, some of its keys being left out."""
    rule = {}
    waiting = [()]
    while waiting:
        past = waiting.pop()
        if len(past) == len(roundings_of(program)):
            continue
        argument = argument_of(program, inputs, past)
        throw = some_throw(chance, argument)
        if len(throw) > 1 or chance.random() < 0.5:
            rule[past] = throw
        waiting.extend([past + (value,) for value, _ in throw])
    return rule


def plain_worth(one, values):
    """What a polynomial comes to, as the library's fraction."""
    total = Fraction(0)
    for powers, factor in one:
        part = number(factor)
        for value, power in zip(values, powers):
            part *= number(value) ** power
        total += part
    return total


def plain_values(program, inputs, past):
    """The values of all steps, as the library's fractions; exact behind the past."""
    values, items = [], [number(item) for item in past]
    for step in program[1]:
        word = step[0]
        if word == "input":
            values.append(number(inputs[step[1]]))
        elif word == "told":
            values.append(number(step[1]))
        elif word == "round":
            values.append(items.pop(0) if items else values[step[1]])
        elif word == "choice":
            values.append(values[step[2]] if values[step[1]] >= 0 else values[step[3]])
        else:
            one, other = values[step[1]], values[step[2]]
            values.append(one + other if word == "sum" else one - other if word == "less" else one * other)
    return values


def plain_results(program, inputs, rule, past=()):
    """The list of (past, chance, result) of all full pasts that come about."""
    roundings = [at for at, step in enumerate(program[1]) if step[0] == "round"]
    if len(past) == len(roundings):
        return [(past, Fraction(1), plain_values(program, inputs, past)[-1])]
    found = []
    argument = plain_values(program, inputs, past)[program[1][roundings[len(past)]][1]]
    for value, chance in rule.get(past, ((fraction_of(argument), (1, 1)),)):
        for full, more, result in plain_results(program, inputs, rule, past + (value,)):
            found.append((full, number(chance) * more, result))
    return found


def plain_mean(program, inputs, rule):
    return sum(chance * result for _, chance, result in plain_results(program, inputs, rule))


def even_throw(count):
    """An even throw of so many values, all as likely."""
    return tuple([((2 * at + 1 - count, 1), (1, count)) for at in range(count)])


def roundings_many(program):
    return len([step for step in program[1] if step[0] == "round"])


def error_past(program, inputs, errors):
    """The past in which each rounding comes to its argument and an error."""
    past = ()
    for error in errors:
        argument = argument_of(program, inputs, past)
        past = past + (fraction_of(number(argument) + number(error)),)
    return past


def error_rule(program, inputs, throws):
    """The rule by which each rounding errs by a throw of its own, by an independent reckoning."""
    rule, waiting = {}, [()]
    while waiting:
        past = waiting.pop()
        if len(past) < len(throws):
            argument = number(argument_of(program, inputs, past))
            rule[past] = tuple([(fraction_of(argument + number(value)), share) for value, share in throws[len(past)]])
            waiting.extend([past + (value,) for value, _ in rule[past]])
    return rule
