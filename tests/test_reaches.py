"""Tests of reaches.py, and of the count of pasts on grains that all functions of its stage ask."""

import random
import unittest
from fractions import Fraction

from chancegrain.errors import TooMany
from chancegrain.fractions import is_ahead
from chancegrain.grainmeans import greatest_mean, greatest_plan, least_mean, least_plan
from chancegrain.lines import is_lower_paper, is_upper_paper, lower_paper, paper_bound, upper_paper
from chancegrain.reaches import grain_pasts, is_on_grains, multiples, next_values
from chancegrain.rules import is_rule, pasts_that_come
from chancegrain.sides import mean_span, safe_lots, sides_of
from tests.grainhelpers import (
    APART, LATER, SINGLE, all_pasts_many, just_enough, just_too_many, plain_multiples, plain_next, plain_pasts,
    some_case, some_grain_rule,
)
from tests.helpers import exchanged, fraction_of, number, odd_values, some_inputs, some_rule, whole

HALF, ONE, ZERO = (1, 2), (1, 1), (0, 1)
NONE = (1, (("input", 0), ("times", 0, 0)))
NO_INPUTS = (0, (("told", (5, 2)), ("round", 0), ("round", 1), ("sum", 1, 2)))


def fractions_of(values):
    return tuple([fraction_of(value) for value in values])


class Multiples(unittest.TestCase):
    def test_drawn_numbers(self):
        chance = random.Random(330)
        for _ in range(300):
            value = Fraction(chance.randint(-40, 40), chance.randint(1, 7))
            grain = Fraction(chance.randint(1, 9), chance.randint(1, 7))
            width = Fraction(chance.randint(0, 30), chance.randint(1, 7))
            found = multiples(fraction_of(value), fraction_of(grain), fraction_of(width))
            self.assertEqual(found, fractions_of(plain_multiples(value, grain, width)))
            for item in found:
                self.assertEqual((number(item) / grain).denominator, 1)
                self.assertLessEqual(abs(number(item) - value), width)

    def test_width_of_0(self):
        self.assertEqual(multiples((3, 2), HALF, ZERO), ((3, 2),))
        self.assertEqual(multiples((4, 3), HALF, ZERO), ())
        self.assertEqual(multiples(ZERO, (7, 3), ZERO), (ZERO,))
        self.assertEqual(multiples((-3, 2), HALF, ZERO), ((-3, 2),))

    def test_a_difference_of_just_the_width(self):
        self.assertEqual(multiples(HALF, ONE, HALF), (ZERO, ONE))
        self.assertEqual(multiples(HALF, ONE, (499999999, 1000000000)), ())
        self.assertEqual(multiples((1, 3), ONE, (2, 3)), (ZERO, ONE))
        self.assertEqual(multiples((1, 3), ONE, (1, 3)), (ZERO,))
        self.assertEqual(multiples((-1, 3), ONE, (2, 3)), (whole(-1), ZERO))
        self.assertEqual(multiples((-7, 2), ONE, HALF), (whole(-4), whole(-3)))

    def test_width_of_just_the_grain(self):
        self.assertEqual(multiples((1, 3), (1, 3), (1, 3)), (ZERO, (1, 3), (2, 3)))
        self.assertEqual(multiples((1, 4), (1, 3), (1, 3)), (ZERO, (1, 3)))
        self.assertEqual(multiples((-1, 4), (1, 3), (1, 3)), ((-1, 3), ZERO))

    def test_great_numbers(self):
        great = 10 ** 59
        found = multiples(whole(great), whole(great - 1), whole(great))
        self.assertEqual(found, (ZERO, whole(great - 1), whole(2 * great - 2)))


class Next(unittest.TestCase):
    def test_drawn_programs(self):
        chance = random.Random(331)
        for _ in range(60):
            program, inputs, grains = some_case(chance)
            for count in range(len(grains)):
                # Also behind pasts that are not on grains, and that cannot come about.
                past = some_inputs(chance, count)
                found = next_values(program, inputs, grains, past)
                self.assertEqual(found, fractions_of(plain_next(program, inputs, grains, past)))

    def test_behind_pasts_that_are_not_on_grains(self):
        grains = ((ONE, ONE), ((1, 3), (1, 3)))
        self.assertEqual(next_values(LATER, (HALF, ZERO), grains, ()), (ZERO, ONE))
        self.assertEqual(next_values(LATER, (HALF, ZERO), grains, ((99, 100),)), ((1, 3), (2, 3)))
        self.assertEqual(next_values(LATER, (HALF, ZERO), grains, (whole(-40),)), ((-61, 3), whole(-20), (-59, 3)))

    def test_without_inputs(self):
        self.assertEqual(next_values(NO_INPUTS, (), ((ONE, ONE), (ONE, ONE)), ()), (whole(2), whole(3)))

    def test_however_many_pasts(self):
        for program, inputs, grains in just_too_many()[:2]:
            self.assertGreater(len(next_values(program, inputs, grains, inputs[:1] * (len(grains) - 1))), 3000)


class Pasts(unittest.TestCase):
    def test_drawn_programs(self):
        chance = random.Random(332)
        for _ in range(60):
            program, inputs, grains = some_case(chance)
            for count in range(len(grains) + 1):
                found = grain_pasts(program, inputs, grains, count)
                self.assertEqual(found, plain_pasts(program, inputs, grains, count))
                self.assertTrue(all(is_ahead(one, other) for one, other in zip(found, found[1:])))

    def test_without_roundings_and_without_inputs(self):
        self.assertEqual(grain_pasts(NONE, (ONE,), (), 0), [()])
        grains = ((ONE, ONE), (whole(2), whole(2)))
        self.assertEqual(grain_pasts(NO_INPUTS, (), grains, 1), [(whole(2),), (whole(3),)])
        self.assertEqual(grain_pasts(NO_INPUTS, (), grains, 2), [
            (whole(2), ZERO), (whole(2), whole(2)), (whole(2), whole(4)), (whole(3), whole(2)), (whole(3), whole(4)),
        ])

    def test_numbers_below_0_are_in_the_order_of_numbers(self):
        grain = ((2, 3), (2, 3))
        self.assertEqual(grain_pasts(SINGLE, ((-1, 3),), (grain,), 1), [((-2, 3),), (ZERO,)])
        self.assertEqual(grain_pasts(SINGLE, (ZERO,), (grain,), 1), [((-2, 3),), (ZERO,), ((2, 3),)])

    def test_lists_are_the_callers(self):
        grains = ((ONE, ONE),)
        grain_pasts(SINGLE, (HALF,), grains, 1).append(None)
        self.assertEqual(grain_pasts(SINGLE, (HALF,), grains, 1), [(ZERO,), (ONE,)])


class OnGrains(unittest.TestCase):
    GRAINS = ((ONE, (3, 2)), (HALF, ONE))
    INPUTS = (HALF, ZERO)

    def check(self, rule, meant):
        self.assertIs(is_rule(LATER, self.INPUTS, rule), True, rule)
        self.assertIs(is_on_grains(LATER, self.INPUTS, self.GRAINS, rule), meant, rule)

    def test_drawn_rules(self):
        chance = random.Random(333)
        seen = [0, 0]
        for _ in range(120):
            program, inputs, grains = some_case(chance)
            rule = some_grain_rule(chance, program, inputs, grains)
            self.assertIs(is_on_grains(program, inputs, grains, rule), True)
            for drawn in [some_rule(chance, program, inputs), {}, dict(list(rule.items())[:-1])]:
                meant = all(
                    set(past) <= set(fractions_of(plain_next(program, inputs, grains, full[:at])))
                    for full, _ in pasts_that_come(program, inputs, drawn, len(grains))
                    for at in range(len(full))
                    for past in [full[at:at + 1]]
                )
                self.assertIs(is_on_grains(program, inputs, grains, drawn), meant)
                seen[meant] += 1
        self.assertGreater(min(seen), 30)

    def test_keys(self):
        parted = {(): ((ZERO, HALF), (ONE, HALF))}
        self.check(parted, True)
        # Behind () there is no multiple as argument; behind 1 there is one of the second grain.
        self.check({}, False)
        self.check({(ONE,): ((HALF, ONE),)}, False)
        self.check({**parted, (ONE,): ((HALF, ONE),), (ZERO,): ((ZERO, ONE),)}, True)
        # Keys that cannot come, whatever their values are.
        self.check({**parted, (whole(7),): (((7, 3), (3, 7)), ((35, 8), (4, 7)))}, True)
        self.check({**parted, ((1, 3),): (((1, 6), ONE),)}, True)

    def test_no_key_where_the_argument_is_a_multiple_or_not(self):
        grains = ((ONE, ONE), (ONE, ONE))
        parted = {(): ((ZERO, HALF), (ONE, HALF))}
        later = {**parted, (ONE,): ((ZERO, HALF), (ONE, HALF))}
        self.assertIs(is_on_grains(LATER, self.INPUTS, grains, parted), False)
        self.assertIs(is_on_grains(LATER, self.INPUTS, grains, later), True)
        self.assertIs(is_on_grains(LATER, (ZERO, ZERO), grains, {}), True)
        self.assertIs(is_on_grains(LATER, (ONE, ZERO), grains, {}), False)
        self.assertIs(is_on_grains(LATER, (ONE, HALF), grains, {}), True)

    def test_just_at_the_width_just_beyond_and_beside_the_grain(self):
        self.check({(): ((whole(-1), HALF), (whole(2), HALF))}, True)
        self.check({(): ((whole(-2), HALF), (whole(3), HALF))}, False)
        self.check({(): ((whole(-1), (13, 24)), (whole(2), (1, 3)), (whole(3), (1, 8)))}, False)
        self.check({(): (((-1, 2), HALF), ((3, 2), HALF))}, False)
        self.check({(): ((HALF, ONE),)}, False)
        two = {(): ((whole(-1), HALF), (whole(2), HALF)), (whole(2),): ((ZERO, HALF), (whole(2), HALF))}
        self.check(two, True)
        self.check({**two, (whole(2),): ((HALF, HALF), ((3, 2), HALF))}, True)
        self.check({**two, (whole(2),): (((-1, 2), HALF), ((5, 2), HALF))}, False)
        self.check({**two, (whole(2),): (((1, 4), HALF), ((7, 4), HALF))}, False)

    def test_no_throw_of_that_mean_at_a_past_that_cannot_come(self):
        parted = {(): ((ZERO, HALF), (ONE, HALF))}
        for past, throw in [
            ((whole(7),), ((whole(3), ONE),)), ((whole(7),), (((7, 2), HALF),)), ((whole(7),), None),
            ((ONE, ONE), None),
            ((whole(7), ONE), ((ONE, ONE),)), (((True, 1),), ((HALF, ONE),)), ("x", ((HALF, ONE),)),
        ]:
            self.assertIs(is_on_grains(LATER, self.INPUTS, self.GRAINS, {**parted, past: throw}), False, past)

    def test_truths_and_lists(self):
        grain = ((ONE, whole(2)),)
        self.assertIs(is_on_grains(SINGLE, (ONE,), grain, {(): ((ZERO, HALF), (whole(2), HALF))}), True)
        for throw in [
            (((False, 1), HALF), (whole(2), HALF)), ((ZERO, HALF), ((2, True), HALF)), [(ZERO, HALF), (whole(2), HALF)],
            ([ZERO, HALF], (whole(2), HALF)), (([0, 1], HALF), (whole(2), HALF)), ((ZERO, (True, 2)), (whole(2), HALF)),
            (((True, 1), ONE),), ((ONE, (True, True)),),
        ]:
            self.assertIs(is_on_grains(SINGLE, (ONE,), grain, {(): throw}), False, throw)

    def test_any_value(self):
        grain = ((ONE, whole(2)),)
        throw = ((ZERO, HALF), (ONE, HALF))
        for other in exchanged(throw, odd_values()):
            meant = is_rule(SINGLE, (HALF,), {(): other})
            meant = meant and set(value for value, _ in other) <= {whole(-1), ZERO, ONE, whole(2)}
            self.assertIs(is_on_grains(SINGLE, (HALF,), grain, {(): other}), meant, other)
        for thing in odd_values():
            self.assertIs(is_on_grains(SINGLE, (HALF,), grain, thing), False)
            self.assertIs(is_on_grains(SINGLE, (ONE,), grain, thing), type(thing) is dict and not thing)

    def test_without_roundings(self):
        self.assertIs(is_on_grains(NONE, (ONE,), (), {}), True)
        self.assertIs(is_on_grains(NONE, (ONE,), (), {(): ((ONE, ONE),)}), False)

    def test_however_wide_grains_and_throws_are(self):
        wide = ((ONE, whole(10 ** 50)), (ONE, whole(10 ** 50)))
        many = tuple([(whole(at), (1, 901)) for at in range(-450, 451)])
        self.assertIs(is_on_grains(APART, (ZERO, ONE), wide, {(): many}), True)
        self.assertIs(is_on_grains(APART, (ZERO, HALF), wide, {(): many}), False)


class Counts(unittest.TestCase):
    def calls(self, program, inputs, grains):
        lot = tuple(range(len(grains)))
        return [
            (told, (program, inputs, grains) + more) for told, more in [
                (grain_pasts, (0,)), (grain_pasts, (len(grains),)), (greatest_mean, ()), (least_mean, ()),
                (greatest_plan, ()), (least_plan, ()), (upper_paper, ()), (lower_paper, ()), (is_upper_paper, (None,)),
                (is_lower_paper, (None,)), (is_upper_paper, ({},)), (is_lower_paper, ({(): (ZERO, ZERO)},)),
                (sides_of, ()), (mean_span, ((),)), (mean_span, (lot,)), (safe_lots, ()),
            ]
        ]

    def test_not_at_20000(self):
        for program, inputs, grains in just_enough():
            self.assertEqual(all_pasts_many(program, inputs, grains), 20000)
            for told, more in self.calls(program, inputs, grains):
                told(*more)

    def test_at_20001_and_far_more(self):
        self.assertEqual([all_pasts_many(*case) for case in just_too_many()[:2]], [20001, 20001])
        for program, inputs, grains in just_too_many():
            for told, more in self.calls(program, inputs, grains):
                with self.assertRaises(TooMany) as caught:
                    told(*more)
                self.assertEqual(caught.exception.most, 20000)

    def test_those_that_do_not_ask(self):
        paper = {(): (ZERO, ONE)}
        for program, inputs, grains in just_too_many():
            self.assertIs(is_on_grains(program, inputs, grains, {}), inputs != (HALF,))
            self.assertEqual(paper_bound(program, inputs, paper), inputs[0])
