"""What several tests need: odd values, parts exchanged, numbers as the library has them."""

from fractions import Fraction

from chancegrain.errors import ChanceError, NoQuotient, Wrong


def nested(depth):
    thing = []
    for _ in range(depth):
        thing = [thing]
    return thing


def odd_values():
    """Values of all kinds that a caller may hand in."""
    return [
        None, True, False, 0, 1, -1, 2, 10 ** 40 - 1, "", "input", "round", "1/2", "a\nb", [], (), {},
        [1, 2], (1, 2), (0, 1), (2, 4), (1, -2), (1, 0), (True, 1), (1, True), ((),), ((1, 1),), [(1, 1)],
        {"a": 1}, {(): ()}, {((1, 1),): (((1, 1), (1, 1)),)}, ((1, 1), (1, 1)), (((1, 1), (1, 1)),),
        ("input", 0), ("told", (1, 2)), Wrong(0), NoQuotient(), ChanceError(), (Wrong(0),), nested(19),
    ]


def exchanged(thing, others):
    """The thing with each part, in turn, exchanged for each of the others, left out or doubled."""
    found = list(others)
    if isinstance(thing, tuple):
        found.append(list(thing))
        for at, part in enumerate(thing):
            found.append(thing[:at] + thing[at + 1:])
            found.append(thing[:at] + (part, part) + thing[at + 1:])
            for other in exchanged(part, others):
                found.append(thing[:at] + (other,) + thing[at + 1:])
    return found


def number(fraction):
    return Fraction(fraction[0], fraction[1])


def fraction_of(value):
    value = Fraction(value)
    return (value.numerator, value.denominator)


def whole(value):
    return (value, 1)
