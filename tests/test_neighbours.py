import random
import unittest
from fractions import Fraction
from math import ceil, floor

from chancegrain.neighbours import (
    is_neighbour_rule, neighbour_result, neighbour_rule, neighbour_throw, neighbours_of,
)
from chancegrain.forms import is_throw
from chancegrain.rules import is_rule, mean_of_throw, pasts_that_come
from tests.grainhelpers import LATER, WORDS, plain_argument
from tests.helpers import (
    exchanged, fraction_of, number, odd_values, plain_results, roundings_many, some_inputs, some_program, whole,
)

HALF, ONE, ZERO = (1, 2), (1, 1), (0, 1)
SQUARE = (1, (("input", 0), ("round", 0), ("times", 1, 1), ("round", 2)))
NONE = (1, (("input", 0), ("times", 0, 0)))


def plain_throw(value, grain):
    """The throw by which a number comes to its neighbours, by an independent reckoning."""
    low, high = grain * floor(value / grain), grain * ceil(value / grain)
    if low == high:
        return ((fraction_of(low), ONE),)
    share = (value - low) / (high - low)
    return ((fraction_of(low), fraction_of(1 - share)), (fraction_of(high), fraction_of(share)))


def plain_rule(program, inputs, grains, past=()):
    if len(past) == len(grains):
        return {}
    throw = plain_throw(plain_argument(program, inputs, past), number(grains[len(past)]))
    found = {past: throw}
    for value, _ in throw:
        found.update(plain_rule(program, inputs, grains, past + (value,)))
    return found


def drawn_grains(chance, many):
    return tuple([fraction_of(Fraction(chance.randint(1, 5), chance.randint(1, 4))) for _ in range(many)])


class Numbers(unittest.TestCase):
    def test_drawn_numbers(self):
        chance = random.Random(370)
        for _ in range(400):
            value = Fraction(chance.randint(-60, 60), chance.randint(1, 9))
            grain = Fraction(chance.randint(1, 12), chance.randint(1, 9))
            told = (fraction_of(value), fraction_of(grain))
            low, high = neighbours_of(*told)
            self.assertEqual((number(low), number(high)), (grain * floor(value / grain), grain * ceil(value / grain)))
            throw = neighbour_throw(*told)
            self.assertEqual(throw, plain_throw(value, grain))
            self.assertIs(is_throw(throw), True)
            self.assertEqual(mean_of_throw(throw), told[0])

    def test_multiples_and_numbers_just_beside_them(self):
        near = (1, 10 ** 30)
        for multiple in [0, 3, -3, 300]:
            for grain in [ONE, (3, 7), whole(10 ** 20)]:
                at = number(grain) * multiple
                self.assertEqual(neighbours_of(fraction_of(at), grain), (fraction_of(at),) * 2)
                self.assertEqual(neighbour_throw(fraction_of(at), grain), ((fraction_of(at), ONE),))
                above, below = fraction_of(at + number(near)), fraction_of(at - number(near))
                self.assertEqual(neighbours_of(above, grain), (fraction_of(at), fraction_of(at + number(grain))))
                self.assertEqual(neighbours_of(below, grain), (fraction_of(at - number(grain)), fraction_of(at)))
                self.assertEqual([len(neighbour_throw(one, grain)) for one in [above, below]], [2, 2])

    def test_numbers_below_0(self):
        self.assertEqual(neighbours_of((-1, 3), HALF), ((-1, 2), ZERO))
        self.assertEqual(neighbour_throw((-1, 3), HALF), (((-1, 2), (2, 3)), (ZERO, (1, 3))))
        self.assertEqual(neighbours_of((-7, 3), (2, 3)), ((-8, 3), whole(-2)))
        self.assertEqual(neighbours_of(ZERO, (2, 3)), (ZERO, ZERO))


class Rules(unittest.TestCase):
    def test_drawn_programs(self):
        chance = random.Random(371)
        for _ in range(100):
            program = some_program(chance, 2, 9, WORDS)
            inputs = some_inputs(chance, 2)
            grains = drawn_grains(chance, roundings_many(program))
            rule = neighbour_rule(program, inputs, grains)
            self.assertEqual(rule, plain_rule(program, inputs, grains))
            self.assertIs(is_rule(program, inputs, rule), True)
            self.assertEqual(list(rule), sorted(rule, key=lambda past: [number(item) for item in past]))
            come = [past for count in range(len(grains)) for past, _ in pasts_that_come(program, inputs, rule, count)]
            self.assertEqual(set(come), set(rule))
            shares = {}
            for _, share, result in plain_results(program, inputs, rule):
                shares[result] = shares.get(result, 0) + share
            meant = tuple([(fraction_of(value), fraction_of(shares[value])) for value in sorted(shares)])
            self.assertEqual(neighbour_result(program, inputs, grains), meant)
            self.assertIs(is_neighbour_rule(program, inputs, grains, rule), True)

    def test_without_roundings_and_without_inputs(self):
        self.assertEqual([neighbour_rule(NONE, (HALF,), ()), neighbour_result(NONE, (HALF,), ())],
                         [{}, (((1, 4), ONE),)])
        self.assertIs(is_neighbour_rule(NONE, (HALF,), (), {}), True)
        program = (0, (("told", (-5, 2)), ("round", 0)))
        self.assertEqual(neighbour_result(program, (), (whole(2),)), ((whole(-4), (1, 4)), (whole(-2), (3, 4))))

    def test_five_roundings(self):
        program, grains = (1, (("input", 0),) + (("round", 0),) * 5), (ONE,) * 5
        rule = neighbour_rule(program, (HALF,), grains)
        self.assertEqual(rule, plain_rule(program, (HALF,), grains))
        self.assertEqual(len(rule), 31)
        self.assertEqual(neighbour_result(program, (HALF,), grains), ((ZERO, HALF), (ONE, HALF)))
        self.assertIs(is_neighbour_rule(program, (HALF,), grains, rule), True)

    def test_dicts_are_the_callers(self):
        grains = (ONE, whole(3))
        found = neighbour_rule(SQUARE, ((3, 2),), grains)
        kept = dict(found)
        found.clear()
        self.assertEqual(neighbour_rule(SQUARE, ((3, 2),), grains), kept)


class Telling(unittest.TestCase):
    GRAINS = (ONE, (1, 3))
    INPUTS = (HALF, ZERO)

    def told(self, thing):
        return is_neighbour_rule(LATER, self.INPUTS, self.GRAINS, thing)

    def test_keys(self):
        rule = neighbour_rule(LATER, self.INPUTS, self.GRAINS)
        self.assertEqual(rule, {
            (): ((ZERO, HALF), (ONE, HALF)), (ZERO,): ((ZERO, ONE),), (ONE,): (((1, 3), HALF), ((2, 3), HALF)),
        })
        self.assertIs(self.told(rule), True)
        self.assertIs(self.told({past: rule[past] for past in reversed(list(rule))}), True)
        for past, meant in [((), False), ((ZERO,), True), ((ONE,), False)]:
            self.assertIs(self.told({key: rule[key] for key in rule if key != past}), meant)
        # A key too many that cannot come, by a throw of whatever values.
        self.assertIs(self.told({**rule, (whole(2),): ((ZERO, HALF), (whole(2), HALF))}), True)
        self.assertIs(self.told({**rule, ((1, 7),): (((1, 14), ONE),)}), True)
        # But only of that mean.
        self.assertIs(self.told({**rule, (whole(2),): ((ZERO, HALF), (whole(3), HALF))}), False)
        self.assertIs(self.told({**rule, (ONE, (1, 3)): (((1, 3), ONE),)}), False)
        self.assertIs(self.told({}), False)
        self.assertIs(is_neighbour_rule(LATER, (whole(2), (1, 3)), self.GRAINS, {}), True)
        self.assertIs(is_neighbour_rule(LATER, (whole(2), (1, 4)), self.GRAINS, {}), False)
        self.assertIs(is_neighbour_rule(LATER, (HALF, (1, 3)), self.GRAINS, {}), False)

    def test_values_that_are_no_neighbours(self):
        rule = neighbour_rule(LATER, self.INPUTS, self.GRAINS)
        for past, throw in [
            ((), ((whole(-1), HALF), (whole(2), HALF))), ((), ((HALF, ONE),)),
            ((), ((ZERO, (3, 4)), (whole(2), (1, 4)))),
            ((), ((whole(-1), (1, 4)), (ZERO, (1, 4)), (ONE, (1, 4)), (whole(2), (1, 4)))),
            ((), ((ZERO, (1, 4)), (HALF, HALF), (ONE, (1, 4)))),
            ((ZERO,), (((-1, 3), HALF), ((1, 3), HALF))),
            ((ZERO,), (((-1, 3), (1, 4)), (ZERO, HALF), ((1, 3), (1, 4)))),
            ((ONE,), ((HALF, ONE),)), ((ONE,), ((ZERO, HALF), (ONE, HALF))),
        ]:
            self.assertIs(is_rule(LATER, self.INPUTS, {**rule, past: throw}), True)
            self.assertIs(self.told({**rule, past: throw}), False, (past, throw))

    def test_drawn_rules_with_a_throw_exchanged(self):
        chance = random.Random(372)
        for _ in range(60):
            program = some_program(chance, 2, 9, WORDS)
            inputs = some_inputs(chance, 2)
            grains = drawn_grains(chance, roundings_many(program))
            rule = neighbour_rule(program, inputs, grains)
            past = chance.choice(list(rule))
            without = {key: rule[key] for key in rule if key != past}
            self.assertIs(is_neighbour_rule(program, inputs, grains, without), len(rule[past]) == 1)
            values, share = [number(value) for value, _ in rule[past]], (1, 2)
            wider = 2 * values[0] - values[-1] - 1, 2 * values[-1] - values[0] + 1
            mean = number(mean_of_throw(rule[past]))
            share = (mean - wider[0]) / (wider[1] - wider[0])
            throw = ((fraction_of(wider[0]), fraction_of(1 - share)), (fraction_of(wider[1]), fraction_of(share)))
            self.assertIs(is_rule(program, inputs, {**rule, past: throw}), True)
            self.assertIs(is_neighbour_rule(program, inputs, grains, {**rule, past: throw}), False)

    def test_any_value(self):
        rule = neighbour_rule(LATER, self.INPUTS, self.GRAINS)
        for other in exchanged(rule[()], odd_values()):
            meant = is_rule(LATER, self.INPUTS, {(): other}) and other == rule[()]
            self.assertIs(self.told({**rule, (): other}), meant, other)
        for thing in odd_values() + [[rule], (rule,), list(rule.items())]:
            self.assertIs(self.told(thing), False)
        for key in [((True, 1),), None, 0, "", (1, 1), (ONE, ONE), (None,), ((2, 2),)]:
            self.assertIs(self.told({key: rule[(ONE,)], (): rule[()], (ZERO,): rule[(ZERO,)]}), False, key)
