import random
import unittest
from fractions import Fraction

from chancegrain.errors import NotByLevels, TooMany
from chancegrain.forever import (
    first_amiss, is_loop_counter, is_span, loop_counter, right_for_ever, span_of,
)
from chancegrain.forms import are_fractions, is_throw
from chancegrain.levels import levels_of, members_many
from chancegrain.loops import led_goal, mean_behind, round_program, values_behind
from chancegrain.polynomials import plus, scaled, unit, worth_at
from chancegrain.relations import PRIME
from chancegrain.right import is_right
from chancegrain.rules import mean_of_throw
from tests.helpers import even_throw, exchanged, fraction_of, number, odd_values, some_inputs, whole
from tests.loophelpers import (
    HALF, ONE, ZERO, exact_worth, plain_argument, plain_mean, some_goal, some_loop, some_loop_rule, steps_many,
)

I3 = (("input", 0), ("input", 1), ("input", 2))
X, Y, Z = unit(3, 0), unit(3, 1), unit(3, 2)
ASIDE = ((whole(-1), HALF), (ONE, HALF))
# x becomes what it is rounded to, y x, z z + y * y: the square meets what was thrown two rounds ago.
THIRD = (3, I3 + (("round", 0), ("times", 1, 1), ("sum", 2, 4)), (3, 0, 5))
SECOND = (3, I3 + (("round", 0), ("sum", 1, 3), ("times", 0, 1), ("sum", 2, 5)), (3, 4, 6))
AT_ONCE = (3, I3 + (("round", 0), ("times", 3, 3)), (3, 1, 4))
# Two roundings in a round, of which the second one is squared, in the product with x.
LATER = (3, I3 + (("round", 0), ("round", 1), ("times", 4, 4), ("times", 3, 5)), (3, 4, 6))
RIGHT = (2, I3[:2] + (("round", 0), ("told", HALF), ("times", 2, 3), ("sum", 1, 2)), (4, 5))
NO_ROUNDINGS = (1, (("input", 0), ("told", HALF), ("times", 0, 1)), (2,))
WALK = (1, (("input", 0), ("round", 0)), (1,))
SQUARING = (2, I3[:2] + (("times", 1, 1), ("round", 0)), (3, 2))


def power_steps(at, ahead):
    """The steps, behind so many ahead, of the twelfth power of a step, which comes last."""
    return (("times", at, at), ("times", ahead, at), ("times", ahead + 1, ahead + 1),
            ("times", ahead + 2, ahead + 2))


# x becomes x + 1, y y + x ** 12, which is of degree 13 in the number of rounds.
LONG = (2, I3[:2] + (("told", ONE), ("sum", 0, 2)) + power_steps(0, 4) + (("sum", 1, 7),), (3, 8))


def member(*powers):
    return ((powers, ONE),)


def combined(goals, factors):
    total = ()
    for goal, factor in zip(goals, factors):
        total = plus(total, scaled(goal, factor))
    return total


def rank(polynomials):
    """How many of some polynomials are independent, by an independent reckoning."""
    rows = []
    for one in polynomials:
        left = {powers: number(factor) for powers, factor in one}
        for powers, row in rows:
            share = left.get(powers, 0)
            for key, factor in row.items():
                left[key] = left.get(key, 0) - share * factor
        left = {key: factor for key, factor in left.items() if factor != 0}
        if left:
            powers = max(left)
            rows.append((powers, {key: factor / left[powers] for key, factor in left.items()}))
    return len(rows)


def by_levels(chance, many, count=8, most=2):
    while True:
        loop = some_loop(chance, many, count, most, ["sum", "less", "times", "round", "round"])
        try:
            levels_of(loop)
            return loop
        except NotByLevels:
            continue


class Spans(unittest.TestCase):
    def check(self, loop, goal):
        goals, factors = span_of(loop, goal)
        count = len(goals)
        self.assertEqual([type(goals), type(factors), len(factors)], [tuple, tuple, count])
        self.assertIs(are_fractions(factors), True)
        for at, one in enumerate(goals):
            self.assertEqual(one, led_goal(loop, goal, at))
        self.assertEqual(combined(goals, factors), led_goal(loop, goal, count))
        self.assertEqual(rank(goals), count)
        self.assertLessEqual(count, members_many(loop, goal))
        self.assertIs(is_span(loop, goal, (goals, factors)), True)
        return goals, factors

    def test_chosen_loops(self):
        y = member(0, 1)
        self.assertEqual(self.check(RIGHT, y), ((y, (((0, 1), ONE), ((1, 0), ONE))), ((-1, 2), (3, 2))))
        self.assertEqual(self.check(NO_ROUNDINGS, member(1)), ((member(1),), (HALF,)))
        self.assertEqual(self.check(NO_ROUNDINGS, (((0,), ONE), ((1,), ONE)))[1], ((-1, 2), (3, 2)))
        self.assertEqual(self.check(NO_ROUNDINGS, member(0)), ((member(0),), (ONE,)))
        self.assertEqual(self.check(WALK, member(3))[1], (ONE,))

    def test_goals_that_become_nothing(self):
        # x becomes 0; y becomes x, so it is 0 behind two rounds.
        loop = (2, I3[:2] + (("told", ZERO),), (2, 0))
        self.assertEqual(self.check(loop, member(1, 0)), ((member(1, 0),), (ZERO,)))
        self.assertEqual(self.check(loop, member(0, 1)), ((member(0, 1), member(1, 0)), (ZERO, ZERO)))
        for one in [loop, RIGHT, NO_ROUNDINGS]:
            self.assertEqual(self.check(one, ()), ((), ()))

    def test_a_prime_number_of_times(self):
        # Multiples of a great prime are no nothing.
        prime = (2305843009213693951, 1)
        self.assertEqual(self.check(RIGHT, (((0, 1), prime),))[1], ((-1, 2), (3, 2)))
        doubled = (2, I3[:2] + (("told", (2147483647, 1)), ("times", 0, 2), ("sum", 1, 0)), (3, 4))
        self.assertEqual(len(self.check(doubled, member(1, 1))[0]), 2)

    def test_drawn_loops(self):
        chance = random.Random(320)
        sizes = []
        for _ in range(60):
            many = chance.randint(1, 3)
            loop, goal = by_levels(chance, many), some_goal(chance, many, 3, 2)
            sizes.append(len(self.check(loop, goal)[0]))
        self.assertGreater(max(sizes), 4)

    def test_states_that_mix(self):
        # Each state becomes a sum of all three, with factors that have no simple order.
        steps = I3 + (("told", HALF), ("told", (-2, 3)), ("times", 0, 3), ("times", 1, 4), ("sum", 5, 6),
                      ("sum", 7, 2), ("less", 8, 0))
        loop = (3, steps, (8, 9, 7))
        self.assertEqual(len(self.check(loop, member(1, 0, 0))[0]), 3)
        self.assertGreater(len(self.check(loop, member(1, 1, 1))[0]), 6)
        self.assertGreater(len(self.check(loop, member(3, 1, 1))[0]), 15)

    def test_40_goals_and_41(self):
        goals, _ = span_of(LONG, member(0, 3))
        self.assertEqual(len(goals), 40)
        self.assertEqual(goals[39], led_goal(LONG, member(0, 3), 39))
        self.assertIs(is_span(LONG, member(0, 3), span_of(LONG, member(0, 3))), True)
        self.assertIs(right_for_ever(LONG, member(0, 3)), True)
        for told in [span_of, first_amiss, right_for_ever, loop_counter]:
            with self.assertRaises(TooMany) as caught:
                told(LONG, member(1, 3))
            self.assertEqual(caught.exception.most, 40)

    def test_spans_of_more_than_40_goals(self):
        # The led goals are polynomials of the number of rounds of degree 40, so the 41st difference is 0.
        goal, factors = member(1, 3), [1]
        goals = [led_goal(LONG, goal, count) for count in range(41)]
        for _ in range(41):
            factors = [one - other for one, other in zip([0] + factors, factors + [0])]
        factors = tuple([whole(-factor * factors[-1]) for factor in factors[:-1]])
        self.assertIs(is_span(LONG, goal, (tuple(goals), factors)), True)
        self.assertIs(is_span(LONG, goal, (tuple(goals), factors[:-1] + (ZERO,))), False)
        self.assertIs(is_loop_counter(LONG, goal, (1, (ZERO, ZERO), {})), False)


class IsSpan(unittest.TestCase):
    Y = member(0, 1)
    SPAN = span_of(RIGHT, Y)

    def test_longer_ones(self):
        three = tuple([led_goal(RIGHT, self.Y, count) for count in range(3)])
        self.assertIs(is_span(RIGHT, self.Y, (three, (ZERO, (-1, 2), (3, 2)))), True)
        self.assertIs(is_span(RIGHT, self.Y, (three, ((-3, 4), (7, 4), ZERO))), True)
        self.assertIs(is_span(RIGHT, self.Y, (three, (ZERO, (-1, 2), ONE))), False)
        self.assertIs(is_span(RIGHT, (), (((), ()), (ONE, whole(5)))), True)
        self.assertIs(is_span(RIGHT, (), (((),), (HALF,))), True)

    def test_edges(self):
        goals, factors = self.SPAN
        for thing in [
            None, (), (goals,), (goals, factors, ()), [goals, factors], (list(goals), factors), (goals, list(factors)),
            (factors, goals), ((), ()), (goals[:1], factors[:1]), (goals, factors[:1]), (goals[::-1], factors[::-1]),
            (goals, ((-1, 2), (3, 3))), (goals, ((-2, 4), (3, 2))), (goals, ((-1, 2), ONE)),
            (goals[:1] + (goals[0],), factors), (goals[:1] + ((((0, True), ONE), ((True, 0), ONE)),), factors),
            (goals[:1] + ((((0, 1), (True, 1)), ((1, 0), ONE)),), factors), ((self.Y,), (ONE,)), (self.Y, (ONE,)),
            (goals[:1] + ((((1, 0), ONE), ((0, 1), ONE)),), factors), (goals, ((-1, 2), None)), ({}, {}), ("", ""),
            ((None, None), factors), (goals[:1] + ((((0, 1), ONE), ((1, 0), whole(2))),), factors),
        ]:
            self.assertIs(is_span(RIGHT, self.Y, thing), False, thing)
        self.assertIs(is_span(RIGHT, (), ((), ())), True)
        self.assertIs(is_span(RIGHT, (), ([], [])), False)
        self.assertIs(is_span(RIGHT, self.Y, self.SPAN), True)

    def test_any_value(self):
        for thing in exchanged(self.SPAN, odd_values()):
            if thing != self.SPAN:
                self.assertIs(is_span(RIGHT, self.Y, thing), False, thing)


class Amiss(unittest.TestCase):
    def test_chosen_loops(self):
        for loop, goal, count in [
            (THIRD, Z, 3), (SECOND, Z, 2), (AT_ONCE, Z, 1), (LATER, Z, 1), (THIRD, X, None), (THIRD, Y, None),
            (THIRD, member(0, 2, 0), 2), (THIRD, member(2, 0, 0), 1), (THIRD, (), None), (THIRD, member(0, 0, 0), None),
            (RIGHT, member(0, 1), None), (RIGHT, member(1, 1), 1), (NO_ROUNDINGS, member(3), None), (WALK, member(2), 1),
            (LONG, member(0, 2), None),
        ]:
            self.assertEqual(first_amiss(loop, goal), count, (loop, goal))
            self.assertIs(right_for_ever(loop, goal), count is None)
            self.check_counter(loop, goal, count)

    def check_counter(self, loop, goal, count):
        found = loop_counter(loop, goal)
        if count is None:
            self.assertIsNone(found)
            return
        self.assertEqual(found[0], count)
        _, values, rule = found
        self.assertEqual([are_fractions(values), len(values)], [True, loop[0]])
        for past, throw in rule.items():
            self.assertIs(are_fractions(past), True)
            self.assertLess(len(past), steps_many(loop))
            self.assertIs(is_throw(throw), True)
            self.assertLessEqual(len(throw), 2)
            self.assertEqual(mean_of_throw(throw), fraction_of(plain_argument(loop, values, past)))
        self.assertEqual(list(rule), sorted(rule, key=len))
        mean = plain_mean(loop, goal, values, count, rule)
        self.assertNotEqual(mean, exact_worth(loop, goal, values, count))
        self.assertEqual(mean_behind(loop, goal, values, count, rule), fraction_of(mean))
        self.assertIs(is_loop_counter(loop, goal, found), True)

    def test_the_second_rounding_bends(self):
        _, values, rule = loop_counter(LATER, Z)
        self.assertEqual(max(len(past) for past in rule), 1)

    def test_it_is_the_first_goal_that_is_not_kept(self):
        for loop, goal in [(THIRD, Z), (SECOND, Z), (AT_ONCE, Z), (THIRD, X), (RIGHT, member(1, 1))]:
            kept = [is_right(round_program(loop, one)) for one in span_of(loop, goal)[0]]
            meant = kept.index(False) + 1 if False in kept else None
            self.assertEqual(first_amiss(loop, goal), meant)

    def test_drawn_loops(self):
        chance = random.Random(321)
        seen = {}
        for _ in range(160):
            many = chance.randint(1, 3)
            loop, goal = by_levels(chance, many), some_goal(chance, many, 2, 2)
            count = first_amiss(loop, goal)
            seen[count] = seen.get(count, 0) + 1
            kept = [is_right(round_program(loop, one)) for one in span_of(loop, goal)[0]]
            self.assertEqual(count, kept.index(False) + 1 if False in kept else None)
            self.check_counter(loop, goal, count)
            for rounds in range(4 if count is None else count):
                values = some_inputs(chance, many)
                rule = some_loop_rule(chance, loop, values, 6, 8)
                self.assertEqual(plain_mean(loop, goal, values, rounds, rule), exact_worth(loop, goal, values, rounds))
        self.assertGreater(min(seen[None], seen[1]), 15)
        self.assertGreater(len(seen), 2)

    def test_what_is_told_is_the_callers(self):
        _, values, rule = loop_counter(THIRD, Z)
        kept = dict(rule)
        rule.clear()
        self.assertEqual(loop_counter(THIRD, Z), (3, values, kept))


class Counters(unittest.TestCase):
    SQUARE = member(2)
    RULE = {(): ASIDE}

    def test_counters(self):
        for thing in [
            (1, (ZERO,), self.RULE), (2, (ZERO,), self.RULE), (40, (ZERO,), self.RULE),
            (2, (ZERO,), {(ZERO,): ASIDE}), (1, (ZERO,), {(): ASIDE, (ONE, whole(3), HALF): ((HALF, ONE),)}),
            (3, (ZERO,), {(ONE, HALF): ((ZERO, HALF), (ONE, HALF)), (): ASIDE}), (1, (ZERO,), {(): even_throw(3)}),
            (40, (ZERO,), {(ZERO,) * 39: ASIDE}),
        ]:
            self.assertIs(is_loop_counter(WALK, self.SQUARE, thing), True, thing)

    def test_edges(self):
        for thing in [
            (0, (ZERO,), self.RULE), (41, (ZERO,), self.RULE), (True, (ZERO,), self.RULE), (-1, (ZERO,), self.RULE),
            ("1", (ZERO,), self.RULE), (None, (ZERO,), self.RULE), (ONE, (ZERO,), self.RULE), (1, (ONE,), self.RULE),
            (1, (), self.RULE), (1, (ZERO, ZERO), self.RULE), (1, [ZERO], self.RULE), (1, (0,), self.RULE),
            (1, ((False, 1),), self.RULE), (1, ((0, True),), self.RULE), (1, (ZERO,), {}), (1, (ZERO,), None),
            (1, (ZERO,), [((), ASIDE)]), (1, (ZERO,), ((), ASIDE)), [1, (ZERO,), self.RULE], (1, (ZERO,)),
            (1, (ZERO,), self.RULE, 1), (1, (ZERO,), {(): list(ASIDE)}), (1, (ZERO,), {(): ((ZERO, ONE),)}),
            (1, (ZERO,), {(): ((whole(-1), HALF), (whole(2), HALF))}), (1, (ZERO,), {(ZERO,): ASIDE}),
            (1, (ZERO,), {(): ((whole(-1), HALF), ((True, 1), HALF))}), (1, (ZERO,), {(): ASIDE, (ONE,): ASIDE}),
            (1, (ZERO,), {(): ASIDE, None: ASIDE}), (1, (ZERO,), {(): ASIDE, (1,): ASIDE}),
            (1, (ZERO,), {(): ASIDE, ((True, 1),): ((ONE, ONE),)}), (1, (ZERO,), {(): ASIDE, (ONE,) * 50: ASIDE}),
            (39, (ZERO,), {(ZERO,) * 39: ASIDE}), (1, (ZERO,), {(): ASIDE, (ONE,): None}), None, (), {}, "abc",
            (1, (ZERO,), {(ONE,): ((ZERO, HALF), (whole(2), HALF))}),
        ]:
            self.assertIs(is_loop_counter(WALK, self.SQUARE, thing), False, thing)
        # A mean that is right, though the rule throws.
        self.assertIs(is_loop_counter(WALK, member(1), (1, (ZERO,), self.RULE)), False)

    def test_any_value(self):
        right = (2, (ZERO,), self.RULE)
        for thing in exchanged(right, odd_values()):
            # Other numbers of rounds are right, too.
            meant = type(thing) is tuple and len(thing) == 3 and type(thing[0]) is int and thing[0] in (1, 2)
            meant = meant and are_fractions(thing[1]) and thing[1] == (ZERO,)
            meant = meant and type(thing[2]) is dict and thing[2] == self.RULE
            self.assertIs(is_loop_counter(WALK, self.SQUARE, thing), meant, thing)
        for other in exchanged(ASIDE, odd_values()):
            meant = is_throw(other) and mean_of_throw(other) == ZERO and len(other) > 1
            self.assertIs(is_loop_counter(WALK, self.SQUARE, (1, (ZERO,), {(): other})), meant, other)

    def test_keys_over_several_rounds(self):
        # Behind a round x has become half of what it was rounded to.
        values = (whole(4), ZERO)
        half = {(whole(2),): ((ZERO, HALF), (whole(2), HALF))}
        self.assertIs(is_loop_counter(RIGHT, member(2, 0), (2, values, half)), False)
        comes = {(whole(4),): ((ZERO, HALF), (whole(4), HALF))}
        self.assertIs(is_loop_counter(RIGHT, member(2, 0), (2, values, comes)), True)
        self.assertIs(is_loop_counter(RIGHT, member(2, 0), (1, values, comes)), False)
        late = {(whole(4), whole(6)): ((ONE, HALF), (whole(5), HALF)), (whole(4),): ((ZERO, (2, 3)), (whole(6), (1, 3)))}
        self.assertIs(is_loop_counter(RIGHT, member(2, 0), (2, values, late)), True)
        wrong = {(whole(4), whole(6)): ((ZERO, HALF), (whole(5), HALF)), (whole(4),): late[(whole(4),)]}
        self.assertIs(is_loop_counter(RIGHT, member(2, 0), (2, values, wrong)), False)

    def test_without_roundings(self):
        for rule in [{}, {(): ((ONE, ONE),)}, {(): ASIDE}]:
            self.assertIs(is_loop_counter(NO_ROUNDINGS, member(2), (1, (ONE,), rule)), False)

    def test_1000_pasts_and_more(self):
        self.assertIs(is_loop_counter(WALK, self.SQUARE, (40, (ZERO,), {(): even_throw(1000)})), True)
        self.assertIs(is_loop_counter(WALK, self.SQUARE, (40, (ZERO,), {(): even_throw(1001)})), False)
        rule = {(): even_throw(500)}
        for value, _ in rule[()]:
            low, high = number(value) - 1, number(value) + 1
            rule[(value,)] = ((fraction_of(low), HALF), (fraction_of(high), HALF))
        self.assertIs(is_loop_counter(WALK, self.SQUARE, (2, (ZERO,), rule)), True)
        low, high = number(value) - 2, number(value) + 2
        rule[(value,)] = ((fraction_of(low), (1, 4)), (value, HALF), (fraction_of(high), (1, 4)))
        self.assertIs(is_loop_counter(WALK, self.SQUARE, (2, (ZERO,), rule)), False)
        # More that come about only behind this round do not count.
        self.assertIs(is_loop_counter(WALK, self.SQUARE, (1, (ZERO,), rule)), True)

    def test_drawn_rules(self):
        chance = random.Random(322)
        seen = {True: 0, False: 0}
        for _ in range(100):
            many = chance.randint(1, 2)
            loop, goal = by_levels(chance, many, 7), some_goal(chance, many, 2, 2)
            values = some_inputs(chance, many)
            count = chance.randint(1, 3)
            rule = some_loop_rule(chance, loop, values, 6, 10)
            order = list(rule)
            off = plain_mean(loop, goal, values, count, rule) != exact_worth(loop, goal, values, count)
            self.assertIs(is_loop_counter(loop, goal, (count, values, rule)), off)
            self.assertEqual(list(rule), order)
            exact = worth_at(goal, values_behind(loop, values, count))
            self.assertIs(mean_behind(loop, goal, values, count, rule) != exact, off)
            seen[off] += 1
        self.assertGreater(min(seen.values()), 20)


class Refused(unittest.TestCase):
    def test_not_by_levels_comes_first(self):
        # Here a least span would have far more than 40 goals.
        for goal in [(), member(1, 0), member(3, 3)]:
            for told, more in [
                (span_of, ()), (first_amiss, ()), (right_for_ever, ()), (loop_counter, ()), (is_span, (None,)),
                (is_span, (((), ()),)), (is_loop_counter, (None,)), (is_loop_counter, ((1, (ZERO, ZERO), {}),)),
            ]:
                with self.assertRaises(NotByLevels) as caught:
                    told(SQUARING, goal, *more)
                self.assertEqual(caught.exception.state, 1)


class Prime(unittest.TestCase):
    def test_it_is_one(self):
        # By the test of Lucas and Lehmer.
        number_of, prime = 4, 2 ** 61 - 1
        for _ in range(59):
            number_of = (number_of * number_of - 2) % prime
        self.assertEqual([number_of, PRIME], [0, prime])

    def test_factors_that_it_divides(self):
        # What is led is no nothing, though all its factors are multiples of the prime.
        loop = (1, (("input", 0), ("told", (2305843009213693951, 1)), ("times", 0, 1)), (2,))
        self.assertEqual(span_of(loop, member(1)), ((member(1),), ((2305843009213693951, 1),)))
        third = (1, (("input", 0), ("told", (1, 2305843009213693951)), ("times", 0, 1)), (2,))
        self.assertEqual(span_of(third, member(1))[1], ((1, 2305843009213693951),))
        self.assertEqual(Fraction(*span_of(third, member(2))[1][0]), Fraction(1, 2305843009213693951 ** 2))
