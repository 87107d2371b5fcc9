import random
import unittest
from fractions import Fraction

from chancegrain.errors import TooMany
from chancegrain.forms import is_throw
from chancegrain.fractions import is_ahead
from chancegrain.rules import (
    chance_of, is_rule, mean_of, mean_of_throw, pasts_that_come, result_throw, square_of, two_throw,
)
from chancegrain.worths import exact_result
from tests.helpers import (
    even_throw, exchanged, fraction_of, number, odd_values, plain_mean, plain_results, some_inputs, some_program,
    some_rule, whole,
)

HALF, ONE, ZERO = (1, 2), (1, 1), (0, 1)
TWO = (1, (("input", 0), ("round", 0), ("sum", 1, 0), ("round", 2), ("times", 1, 3)))
RULE = {(): (((0, 1), HALF), ((1, 1), HALF)), ((1, 1),): (((1, 1), HALF), ((2, 1), HALF))}
WORDS = ["sum", "less", "times", "round", "round", "choice"]


class Throws(unittest.TestCase):
    def test_mean(self):
        self.assertEqual(mean_of_throw(((whole(5), ONE),)), whole(5))
        self.assertEqual(mean_of_throw(((whole(-1), (1, 3)), (whole(0), (1, 3)), (whole(5), (1, 3)))), (4, 3))

    def test_two_values(self):
        chance = random.Random(18)
        for _ in range(100):
            low, mean, high = sorted([Fraction(chance.randint(-9, 9), chance.randint(1, 5)) for _ in range(3)])
            found = two_throw(fraction_of(low), fraction_of(mean), fraction_of(high))
            self.assertIs(is_throw(found), True)
            self.assertEqual(mean_of_throw(found), fraction_of(mean))
            values = [number(value) for value, _ in found]
            self.assertEqual(values, [mean] if mean in (low, high) else [low, high])

    def test_two_edges(self):
        self.assertEqual(two_throw(ZERO, ZERO, ONE), ((ZERO, ONE),))
        self.assertEqual(two_throw(ZERO, ONE, ONE), ((ONE, ONE),))
        self.assertEqual(two_throw(ONE, ONE, ONE), ((ONE, ONE),))


class Forms(unittest.TestCase):
    def test_rules(self):
        for thing in [
            {}, RULE, {(): ((HALF, ONE),)}, {((1, 1),): (((3, 2), ONE),)},
            {((-7, 3),): ((fraction_of(Fraction(-7, 3) + Fraction(1, 2)), ONE),)},
            {(): (((-1, 1), HALF), ((2, 1), HALF))}, {(): (((0, 1), (2, 3)), ((1, 1), (1, 6)), ((2, 1), (1, 6)))},
            {((1, 1),): RULE[((1, 1),)], (): RULE[()]},
        ]:
            self.assertIs(is_rule(TWO, (HALF,), thing), True, thing)

    def test_edges(self):
        sure = (((3, 2), ONE),)
        for thing in [
            None, True, [], (), "", 0, [((), RULE[()])], {(): None}, {(): ()}, {(): RULE}, {(): list(RULE[()])},
            {(): ((ONE, ONE),)}, {((1, 1),): RULE[()]}, {((9, 1),): sure}, {((1, 1), (2, 1)): (((2, 1), ONE),)},
            {((1, 1), (2, 1), (0, 1)): sure}, {((True, 1),): sure}, {((1, True),): sure}, {(1, 1): sure},
            {((2, 2),): sure}, {None: sure}, {0: sure}, {False: sure}, {"": sure}, {((1, 1), None): sure},
            {(): (((0, 1), HALF), ((1, 1), (1, 4)))}, {(): (((1, 1), HALF), ((0, 1), HALF))},
            {(): (((1, 2), (True, 1)),)}, {(): ((HALF, 1),)}, {(): RULE[()], ((1, 1),): None},
            {(): RULE[()], ((1, 1),): RULE[()]}, {(): RULE[()], 1: RULE[()]}, {((1, 1),): (((3, 2), ONE), 1)},
        ]:
            self.assertIs(is_rule(TWO, (HALF,), thing), False, thing)
        self.assertIs(is_rule(TWO, (ONE,), RULE), False)

    def test_without_roundings(self):
        program = (1, (("input", 0),))
        self.assertIs(is_rule(program, (HALF,), {}), True)
        self.assertIs(is_rule(program, (HALF,), {(): ((HALF, ONE),)}), False)

    def test_by_choices(self):
        program = (1, (("input", 0), ("round", 0), ("told", (7, 1)), ("choice", 1, 0, 2), ("round", 3)))
        self.assertIs(is_rule(program, (HALF,), {(ZERO,): ((HALF, ONE),), ((-1, 1),): (((7, 1), ONE),)}), True)
        self.assertIs(is_rule(program, (HALF,), {((-1, 1),): ((HALF, ONE),)}), False)

    def test_any_value(self):
        for thing in odd_values():
            meant = thing == {} and type(thing) is dict
            self.assertIs(is_rule(TWO, (HALF,), thing), meant, thing)
        for throw in exchanged(RULE[()], odd_values()):
            meant = is_throw(throw) and mean_of_throw(throw) == HALF
            self.assertIs(is_rule(TWO, (HALF,), {(): throw}), meant, throw)
        for key in [thing for thing in odd_values() if type(thing) in (str, int, bool, type(None))]:
            self.assertIs(is_rule(TWO, (HALF,), {key: RULE[()]}), False)


class Chances(unittest.TestCase):
    def test_chances(self):
        inputs = (HALF,)
        for past, meant in [
            ((), ONE), ((ZERO,), HALF), ((ONE,), HALF), ((whole(3),), ZERO), ((ZERO, HALF), HALF),
            ((ZERO, ONE), ZERO), ((ONE, ONE), (1, 4)), ((ONE, whole(2)), (1, 4)), ((whole(3), whole(2)), ZERO),
            ((whole(3), (7, 2)), ZERO), ((HALF, ONE), ZERO),
        ]:
            self.assertEqual(chance_of(TWO, inputs, RULE, past), meant, past)
        self.assertEqual(chance_of(TWO, inputs, {}, (HALF, ONE)), ONE)
        self.assertEqual(chance_of(TWO, inputs, {}, (HALF,)), ONE)
        self.assertEqual(chance_of(TWO, inputs, {}, (ONE,)), ZERO)

    def test_pasts_of_few_items(self):
        self.assertEqual(pasts_that_come(TWO, (HALF,), RULE, 0), [((), ONE)])
        self.assertEqual(pasts_that_come(TWO, (HALF,), RULE, 1), [((ZERO,), HALF), ((ONE,), HALF)])
        self.assertEqual(pasts_that_come(TWO, (HALF,), {}, 2), [((HALF, ONE), ONE)])

    def test_keys_that_cannot_come_mean_nothing(self):
        more = {((9, 1),): ((whole(0), HALF), (whole(19), HALF)), **RULE}
        self.assertIs(is_rule(TWO, (HALF,), more), True)
        for told in [result_throw, mean_of, square_of]:
            self.assertEqual(told(TWO, (HALF,), more), told(TWO, (HALF,), RULE))
        self.assertEqual(pasts_that_come(TWO, (HALF,), more, 2), pasts_that_come(TWO, (HALF,), RULE, 2))

    def test_by_many_rules(self):
        chance = random.Random(19)
        for _ in range(80):
            program = some_program(chance, 2, 8, WORDS)
            inputs = some_inputs(chance, 2)
            rule = some_rule(chance, program, inputs)
            kept = dict(rule)
            self.assertIs(is_rule(program, inputs, rule), True)
            self.check(program, inputs, rule)
            turned = {past: rule[past] for past in reversed(list(rule))}
            self.assertEqual(result_throw(program, inputs, turned), result_throw(program, inputs, rule))
            self.assertEqual(rule, kept)
            self.assertEqual(list(rule), list(kept))

    def check(self, program, inputs, rule):
        meant = plain_results(program, inputs, rule)
        count = len(meant[0][0])
        found = pasts_that_come(program, inputs, rule, count)
        self.assertEqual({past: number(share) for past, share in found}, {past: share for past, share, _ in meant})
        for one, other in zip(found, found[1:]):
            self.assertIs(is_ahead(one[0], other[0]), True)
        for past, share in found:
            self.assertEqual(chance_of(program, inputs, rule, past), share)
        shares = {}
        for _, share, result in meant:
            shares[result] = shares.get(result, 0) + share
        throw = result_throw(program, inputs, rule)
        self.assertIs(is_throw(throw), True)
        self.assertEqual({number(value): number(share) for value, share in throw}, shares)
        exact = number(exact_result(program, inputs))
        self.assertEqual(mean_of(program, inputs, rule), fraction_of(plain_mean(program, inputs, rule)))
        square = sum(share * (result - exact) ** 2 for _, share, result in meant)
        self.assertEqual(square_of(program, inputs, rule), fraction_of(square))

    def test_like_results_are_one(self):
        program = (1, (("input", 0), ("round", 0), ("times", 1, 1)))
        rule = {(): ((whole(-1), HALF), (whole(1), HALF))}
        self.assertEqual(result_throw(program, (ZERO,), rule), ((ONE, ONE),))
        self.assertEqual(mean_of(program, (ZERO,), rule), ONE)
        self.assertEqual(square_of(program, (ZERO,), rule), ONE)

    def test_without_roundings(self):
        program = (1, (("input", 0), ("sum", 0, 0)))
        self.assertEqual(pasts_that_come(program, (HALF,), {}, 0), [((), ONE)])
        self.assertEqual(result_throw(program, (HALF,), {}), ((ONE, ONE),))
        self.assertEqual(mean_of(program, (HALF,), {}), ONE)
        self.assertEqual(square_of(program, (HALF,), {}), ZERO)
        self.assertEqual(chance_of(program, (HALF,), {}, ()), ONE)

    def test_lists_are_the_callers(self):
        for count in [0, 1, 2]:
            found = pasts_that_come(TWO, (HALF,), RULE, count)
            kept = list(found)
            found.append(None)
            found[0] = None
            self.assertEqual(pasts_that_come(TWO, (HALF,), RULE, count), kept)


class Bound(unittest.TestCase):
    PROGRAM = (1, (("input", 0), ("round", 0), ("told", (0, 1)), ("round", 2), ("round", 2), ("sum", 1, 3)))

    def rule(self, first, last):
        """A rule with so many values first, two behind each of them, or so many behind the last one."""
        rule = {(): even_throw(first)}
        for value, _ in rule[()]:
            rule[(value,)] = even_throw(2)
        rule[(value,)] = even_throw(last)
        return rule

    def too_many(self, told, *arguments):
        with self.assertRaises(TooMany) as caught:
            told(*arguments)
        self.assertEqual(caught.exception.most, 4000)

    def test_just_4000(self):
        rule = self.rule(2000, 2)
        self.assertEqual(len(pasts_that_come(self.PROGRAM, (ZERO,), rule, 2)), 4000)
        self.assertEqual(len(pasts_that_come(self.PROGRAM, (ZERO,), rule, 3)), 4000)
        self.assertEqual(mean_of(self.PROGRAM, (ZERO,), rule), ZERO)
        self.assertEqual(mean_of_throw(result_throw(self.PROGRAM, (ZERO,), rule)), ZERO)
        mean = Fraction(sum(number(value) ** 2 for value, _ in even_throw(2000)), 2000)
        self.assertEqual(square_of(self.PROGRAM, (ZERO,), rule), fraction_of(mean + 1))

    def test_just_more(self):
        rule = self.rule(2000, 3)
        self.assertEqual(len(pasts_that_come(self.PROGRAM, (ZERO,), rule, 1)), 2000)
        for count in [2, 3]:
            self.too_many(pasts_that_come, self.PROGRAM, (ZERO,), rule, count)
        for told in [result_throw, mean_of, square_of]:
            self.too_many(told, self.PROGRAM, (ZERO,), rule)

    def test_all_at_once(self):
        rule = {(): even_throw(4001)}
        self.assertEqual(pasts_that_come(self.PROGRAM, (ZERO,), rule, 0), [((), ONE)])
        self.too_many(pasts_that_come, self.PROGRAM, (ZERO,), rule, 1)
        self.assertEqual(len(pasts_that_come(self.PROGRAM, (ZERO,), {(): even_throw(4000)}, 3)), 4000)

    def test_pasts_are_counted_not_results(self):
        program = (1, (("input", 0), ("round", 0), ("told", (0, 1)), ("times", 1, 2)))
        self.too_many(mean_of, program, (ZERO,), {(): even_throw(4001)})
        self.assertEqual(result_throw(program, (ZERO,), {(): even_throw(4000)}), ((ZERO, ONE),))
