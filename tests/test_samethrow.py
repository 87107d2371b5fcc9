import random
import unittest
from fractions import Fraction
from itertools import permutations

from chancegrain.errors import NotPlain
from chancegrain.errorthrows import are_error_throws, rule_of
from chancegrain.forms import are_inputs
from chancegrain.rules import result_throw
from chancegrain.samethrow import matched_throws, matchings, parting_throws, same_throw
from tests.helpers import fraction_of, roundings_many, some_inputs, some_program, some_throw, whole

HALF, ONE, ZERO = (1, 2), (1, 1), (0, 1)
WORDS = ["sum", "less", "sum", "times", "round", "round"]
FIRST, SECOND = ("input", 0), ("input", 1)
TWO = (FIRST, SECOND, ("round", 0), ("round", 1))
CROSSED = (FIRST, SECOND, ("round", 1), ("round", 0))
SUM = (2, TWO + (("sum", 2, 3),))
PRODUCT = (2, TWO + (("times", 2, 3),))
CHOOSING = (2, TWO + (("sum", 2, 3), ("choice", 0, 2, 3)))
NONE = (1, (FIRST, ("times", 0, 0)))


def results(one, other, matching, inputs, throws):
    rules = [(one, throws), (other, matched_throws(matching, throws))]
    return [result_throw(program, inputs, rule_of(program, inputs, told)) for program, told in rules]


class Matchings(unittest.TestCase):
    def test_numbers_that_are_unlike(self):
        self.assertEqual([matchings(SUM, (1, (FIRST,) + SUM[1][2:3])), same_throw(SUM, NONE)], [[], False])
        self.assertEqual(matchings((1, (FIRST,)), (2, (FIRST,))), [])
        self.assertEqual(matchings((1, (FIRST, ("round", 0))), (1, (FIRST, ("round", 0), ("round", 1)))), [])
        # The same results, but a rounding that has no share in one.
        self.assertEqual(matchings((1, (FIRST, ("round", 0), FIRST)), (1, (FIRST,))), [])

    def test_no_roundings(self):
        self.assertEqual(matchings(NONE, NONE), [()])
        self.assertEqual(matchings(NONE, (1, (FIRST, ("told", ONE), ("times", 0, 0), ("times", 2, 1)))), [()])
        self.assertEqual(matchings(NONE, (1, (FIRST,))), [])
        self.assertIsNone(parting_throws(NONE, NONE, ()))
        inputs, throws = parting_throws(NONE, (1, (FIRST,)), ())
        self.assertEqual(throws, ())
        self.assertNotEqual(*results(NONE, (1, (FIRST,)), (), inputs, throws))

    def test_one_two_and_all(self):
        self.assertEqual(matchings(SUM, SUM), [(0, 1), (1, 0)])
        self.assertEqual(matchings(PRODUCT, PRODUCT), [(0, 1)])
        self.assertEqual(matchings(PRODUCT, (2, CROSSED + (("times", 2, 3),))), [(1, 0)])
        self.assertEqual(matchings(PRODUCT, SUM), [])
        five = (1, (FIRST,) + (("round", 0),) * 5 + (("sum", 1, 2), ("sum", 6, 3), ("sum", 7, 4), ("sum", 8, 5)))
        self.assertEqual(matchings(five, five), list(permutations(range(5))))

    def test_errors_that_can_be_exchanged_in_part(self):
        # The first two errors are alike, the third one is not.
        steps = (FIRST, ("round", 0), ("round", 0), ("round", 0), ("sum", 1, 2), ("sum", 3, 3), ("sum", 4, 5))
        self.assertEqual(matchings((1, steps), (1, steps)), [(0, 1, 2), (1, 0, 2)])
        turned = (1, steps[:4] + (("sum", 2, 3), ("sum", 1, 1), ("sum", 4, 5)))
        self.assertEqual(matchings((1, steps), turned), [(1, 2, 0), (2, 1, 0)])
        self.assertEqual(matchings(turned, (1, steps)), [(2, 0, 1), (2, 1, 0)])
        # Item k is matched with rounding k of one: three in a ring.
        ring = (1, steps[:4] + (("sum", 1, 1), ("sum", 4, 2), ("sum", 1, 4), ("sum", 6, 5)))
        moved_on = (1, steps[:4] + (("sum", 2, 2), ("sum", 4, 3), ("sum", 2, 4), ("sum", 6, 5)))
        self.assertEqual(matchings(ring, moved_on), [(1, 2, 0)])
        self.assertEqual(matchings(moved_on, ring), [(2, 0, 1)])

    def test_results_that_are_the_same_only_for_some_inputs(self):
        weighed = (2, TWO + (("sum", 2, 3), ("times", 4, 0)))
        self.assertEqual(matchings(SUM, weighed), [])
        self.assertIs(same_throw(SUM, weighed), False)
        inputs, throws = parting_throws(SUM, weighed, (0, 1))
        self.assertNotEqual(*results(SUM, weighed, (0, 1), inputs, throws))
        self.assertEqual(*results(SUM, weighed, (0, 1), (ONE, ZERO), throws))

    def test_drawn_programs(self):
        chance = random.Random(390)
        seen = [0, 0]
        while min(seen) < 60:
            one = some_program(chance, 2, 8, WORDS)
            other = some_program(chance, 2, 8, WORDS)
            if chance.random() < 0.5:
                other = (2, shuffled(chance, one[1]))
            many = roundings_many(one)
            if many != roundings_many(other):
                self.assertEqual([matchings(one, other), same_throw(one, other)], [[], False])
                continue
            found = matchings(one, other)
            self.assertEqual(found, sorted(found))
            self.assertIs(same_throw(one, other), found != [])
            seen[found != []] += 1
            for matching in permutations(range(many)):
                self.check(chance, one, other, matching, matching in found)

    def check(self, chance, one, other, matching, fits):
        parting = parting_throws(one, other, matching)
        self.assertEqual(parting is None, fits)
        if fits:
            inputs = some_inputs(chance, 2)
            throws = tuple([some_throw(chance, ZERO) for _ in matching])
            self.assertEqual(*results(one, other, matching, inputs, throws))
        else:
            inputs, throws = parting
            self.assertIs(are_inputs(one, inputs), True)
            self.assertIs(are_error_throws(one, throws), True)
            self.assertTrue(all(len(throw) <= 2 for throw in throws))
            self.assertNotEqual(*results(one, other, matching, inputs, throws))


def shuffled(chance, steps):
    """The same steps in another order that keeps each behind those that it names."""
    order, waiting = [], list(range(len(steps) - 1))
    while waiting:
        ready = [at for at in waiting if steps[at][0] in ("input", "told") or not set(steps[at][1:]) & set(waiting)]
        order.append(chance.choice(ready))
        waiting.remove(order[-1])
    order.append(len(steps) - 1)
    place = {at: to for to, at in enumerate(order)}
    return tuple([
        step if step[0] in ("input", "told") else step[:1] + tuple([place[side] for side in step[1:]])
        for step in [steps[at] for at in order]
    ])


class Throws(unittest.TestCase):
    def test_matched(self):
        still, even = ((ZERO, ONE),), ((whole(-1), HALF), (ONE, HALF))
        aside = ((whole(-1), (2, 3)), (whole(2), (1, 3)))
        self.assertEqual(matched_throws((0, 1, 2), (still, even, aside)), (still, even, aside))
        self.assertEqual(matched_throws((1, 2, 0), (still, even, aside)), (aside, still, even))
        self.assertEqual(matched_throws((2, 0, 1), (still, even, aside)), (even, aside, still))
        self.assertEqual(matched_throws((), ()), ())

    def test_parting_where_means_and_squares_are_the_same(self):
        # The one's error and the other's are alike but for their sign.
        turned = (1, (FIRST, ("round", 0), ("sum", 0, 0), ("less", 2, 1)))
        single = (1, (FIRST, ("round", 0)))
        self.assertEqual(matchings(single, turned), [])
        inputs, throws = parting_throws(single, turned, (0,))
        self.assertNotEqual(*results(single, turned, (0,), inputs, throws))
        # e + f against e - f, and e * f against f * e at unlike inputs.
        apart = (2, TWO + (("less", 2, 3), ("sum", 4, 1), ("sum", 5, 1)))
        for matching in [(0, 1), (1, 0)]:
            inputs, throws = parting_throws(SUM, apart, matching)
            self.assertNotEqual(*results(SUM, apart, matching, inputs, throws))
        inputs, throws = parting_throws(PRODUCT, PRODUCT, (1, 0))
        self.assertNotEqual(*results(PRODUCT, PRODUCT, (1, 0), inputs, throws))

    def test_parting_five(self):
        products = (("times", 1, 2), ("times", 6, 3), ("times", 7, 4), ("times", 8, 5))
        five = (1, (FIRST,) + (("round", 0),) * 5 + products)
        more = (1, five[1] + (("sum", 9, 1), ("less", 10, 2)))
        self.assertEqual(matchings(five, more), [])
        inputs, throws = parting_throws(five, more, (4, 3, 2, 1, 0))
        self.assertIs(are_error_throws(five, throws), True)
        self.assertNotEqual(*results(five, more, (4, 3, 2, 1, 0), inputs, throws))
        self.assertIsNone(parting_throws(five, five, (4, 3, 2, 1, 0)))

    def test_programs_of_constants(self):
        one, other = (0, (("told", HALF),)), (0, (("told", ONE), ("round", 0)))
        self.assertEqual(matchings(one, other), [])
        third = (0, (("told", HALF), ("round", 0)))
        inputs, throws = parting_throws(third, other, (0,))
        self.assertEqual(inputs, ())
        self.assertNotEqual(*results(third, other, (0,), inputs, throws))
        self.assertEqual(fraction_of(Fraction(1, 2)), HALF)


class Refused(unittest.TestCase):
    def test_the_first_one_that_is_not_plain(self):
        late = (2, CHOOSING[1][:4] + (("sum", 2, 3), ("sum", 2, 3)) + (("choice", 0, 2, 3),))
        for one, other, step in [
            (CHOOSING, SUM, 5), (SUM, CHOOSING, 5), (CHOOSING, late, 5), (late, CHOOSING, 6), (NONE, CHOOSING, 5),
            (CHOOSING, NONE, 5),
        ]:
            for told, more in [(matchings, ()), (same_throw, ()), (parting_throws, ((0, 1),))]:
                with self.assertRaises(NotPlain) as caught:
                    told(one, other, *more)
                self.assertEqual(caught.exception.step, step)

    def test_lists_are_the_callers(self):
        matchings(SUM, SUM).append(None)
        self.assertEqual(matchings(SUM, SUM), [(0, 1), (1, 0)])
