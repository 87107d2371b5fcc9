"""Tests of counters.py, and of the points at which polynomials are not 0."""

import random
import unittest

from chancegrain.counters import counter_at, counter_of, gap_of, is_counter, is_short
from chancegrain.errors import NotPlain, TooMany
from chancegrain.fractions import is_ahead
from chancegrain.points import point_off
from chancegrain.polynomials import minus, multiplied, unit, worth_at
from chancegrain.right import bends, bends_at, is_right
from chancegrain.rules import is_rule, two_throw
from chancegrain.worths import exact_result
from tests.helpers import (
    even_throw, exchanged, fraction_of, number, odd_values, plain_mean, some_inputs, some_program, some_rule, whole,
)

WORDS = ["sum", "less", "times", "times", "round", "round"]
HALF, ONE, ZERO = (1, 2), (1, 1), (0, 1)
SQUARE = (1, (("input", 0), ("round", 0), ("times", 1, 1)))
TWICE = (1, (("input", 0), ("round", 0), ("round", 0), ("times", 1, 2)))
WEIGHED = (1, SQUARE[1] + (("times", 0, 2),))
CUBE = (1, (("input", 0), ("round", 0), ("less", 1, 0), ("times", 2, 2), ("times", 3, 2)))
# Only the last of four roundings bends, and only where the first three are not 0.
LATE = (1, (
    ("input", 0), ("round", 0), ("round", 0), ("round", 0), ("times", 1, 2), ("times", 4, 3),
    ("round", 0), ("times", 6, 6), ("times", 7, 5), ("times", 8, 0),
))
# The second rounding bends where the input is not 0, the third one where it is not 1.
PARTED = (1, (
    ("input", 0), ("round", 0), ("round", 0), ("times", 2, 2), ("times", 3, 0),
    ("round", 0), ("times", 5, 5), ("told", ONE), ("less", 0, 7), ("times", 6, 8), ("sum", 4, 9), ("sum", 1, 10),
))
NO_INPUTS = (0, (("told", HALF), ("round", 0), ("times", 1, 1)))
NO_ROUNDINGS = (1, (("input", 0), ("times", 0, 0)))
CHOOSING = (1, (("input", 0), ("round", 0), ("told", ZERO), ("choice", 1, 1, 2)))
ASIDE = ((whole(-1), HALF), (whole(1), HALF))


def rise(keys):
    return all(is_ahead(one, other) for one, other in zip(keys, keys[1:]))


class Points(unittest.TestCase):
    def test_a_polynomial_that_is_0_at_simple_values(self):
        x = unit(2, 0)
        one = unit(2, 1)
        for value in [0, 1, -1, 2]:
            one = multiplied(one, minus(x, (((0, 0), (value, 1)),) if value else ()))
        point = point_off(one, 2)
        self.assertEqual(len(point), 2)
        self.assertNotEqual(worth_at(one, point), ZERO)
        self.assertEqual(point_off(one, 0), ())


class Gaps(unittest.TestCase):
    def test_against_plain_means(self):
        chance = random.Random(220)
        for _ in range(80):
            program = some_program(chance, 2, 8, WORDS + ["choice"])
            inputs = some_inputs(chance, 2)
            rule = some_rule(chance, program, inputs)
            meant = plain_mean(program, inputs, rule) - number(exact_result(program, inputs))
            self.assertEqual(gap_of(program, inputs, rule), fraction_of(meant))
            self.assertIs(is_counter(program, (inputs, rule)), meant != 0)

    def test_choices(self):
        rule = {(): ASIDE}
        self.assertEqual(gap_of(CHOOSING, (ZERO,), rule), HALF)
        self.assertIs(is_counter(CHOOSING, ((ZERO,), rule)), True)
        self.assertIs(is_counter(CHOOSING, ((ONE,), {(): ((ZERO, HALF), (whole(2), HALF))})), False)
        self.assertEqual(gap_of(CHOOSING, (ONE,), {}), ZERO)

    def test_without_roundings(self):
        self.assertEqual(gap_of(NO_ROUNDINGS, (HALF,), {}), ZERO)
        self.assertIs(is_counter(NO_ROUNDINGS, ((HALF,), {})), False)

    def test_bound(self):
        program = (1, (("input", 0), ("round", 0), ("round", 0), ("times", 1, 1)))
        rule = {(): even_throw(2000)}
        for value, _ in rule[()]:
            rule[(value,)] = ASIDE
        self.assertEqual(is_counter(program, ((ZERO,), rule)), True)
        self.assertNotEqual(gap_of(program, (ZERO,), rule), ZERO)
        rule[(value,)] = even_throw(3)
        for told, arguments in [(gap_of, (program, (ZERO,), rule)), (is_counter, (program, ((ZERO,), rule)))]:
            with self.assertRaises(TooMany) as caught:
                told(*arguments)
            self.assertEqual(caught.exception.most, 4000)


class Counters(unittest.TestCase):
    RULE = {(): ASIDE}

    def test_counters(self):
        for thing in [
            ((ZERO,), self.RULE), ((HALF,), {(): two_throw(ZERO, HALF, ONE)}),
            ((ZERO,), {(): ((whole(-2), (1, 4)), (ZERO, HALF), (whole(2), (1, 4)))}),
        ]:
            self.assertIs(is_counter(SQUARE, thing), True, thing)

    def test_edges(self):
        for thing in [
            ((ZERO,), {}), ((ONE,), self.RULE), ((), self.RULE), ((ZERO, ZERO), self.RULE), [(ZERO,), self.RULE],
            ([ZERO], self.RULE), ((ZERO,), self.RULE, 1), ((ZERO,),), (self.RULE, (ZERO,)), ((ZERO,), None),
            (((False, 1),), self.RULE), (((0, True),), self.RULE), (ZERO, self.RULE), ((ZERO,), [((), ASIDE)]),
            ((ZERO,), {(): list(ASIDE)}), ((ZERO,), {(): ((whole(-1), HALF), ((True, 1), HALF))}),
            ((ZERO,), {(): ((whole(-1), HALF), (whole(2), HALF))}), ((ZERO,), {(): ((ZERO, ONE),)}),
            ((ZERO,), {(): ((whole(-1), (1, 3)), (whole(1), (1, 3)))}), ((ZERO,), {(ZERO,): ASIDE}),
            ((ZERO,), {(): ASIDE, (ZERO,): ASIDE}), ((ZERO,), {(): ASIDE, 0: ASIDE}),
        ]:
            self.assertIs(is_counter(SQUARE, thing), False, thing)

    def test_any_value(self):
        right = ((ZERO,), self.RULE)
        for thing in exchanged(right, odd_values()):
            told = is_counter(SQUARE, thing)
            if thing != right:
                self.assertIs(told, self.plainly(thing), thing)

    def plainly(self, thing):
        if type(thing) is not tuple or len(thing) != 2 or type(thing[0]) is not tuple or len(thing[0]) != 1:
            return False
        if thing[1] != self.RULE or type(thing[1]) is not dict:
            return False
        return thing[0][0] == ZERO and [type(part) for part in thing[0][0]] == [int, int]


class Told(unittest.TestCase):
    def check_rule(self, program, inputs, rule):
        self.assertIs(is_rule(program, inputs, rule), True)
        self.assertNotEqual(gap_of(program, inputs, rule), ZERO)
        self.assertIs(is_counter(program, (inputs, rule)), True)
        self.assertIs(is_short(program, inputs, rule), True)
        least = bends_at(program, inputs)[0]
        sizes = [len(past) for past in rule]
        self.assertLessEqual(max(sizes), least)
        self.assertLessEqual(sizes.count(least), 1)
        self.assertTrue(all(len(throw) <= 2 for throw in rule.values()))
        self.assertTrue(rise(list(rule)))

    def check(self, program, inputs):
        found = counter_of(program)
        if is_right(program):
            self.assertIsNone(found)
        else:
            self.check_rule(program, found[0], found[1])
            self.assertEqual(bends_at(program, found[0])[0], bends(program)[0])
        rule = counter_at(program, inputs)
        if bends_at(program, inputs) == ():
            self.assertIsNone(rule)
        else:
            self.check_rule(program, inputs, rule)

    def test_chosen_programs(self):
        for program in [SQUARE, TWICE, WEIGHED, CUBE, LATE, PARTED, NO_INPUTS, NO_ROUNDINGS]:
            for value in [ZERO, ONE, whole(-1), HALF, whole(7)]:
                self.check(program, (value,) * program[0])

    def test_which_ones_bend(self):
        self.assertEqual([bends(LATE), bends(PARTED)], [(3,), (1, 2)])
        self.assertEqual([bends_at(PARTED, (ONE,)), bends_at(PARTED, (ZERO,))], [(1,), (2,)])
        self.assertEqual(max(len(past) for past in counter_of(LATE)[1]), 3)
        self.assertEqual(max(len(past) for past in counter_at(PARTED, (ZERO,))), 2)
        self.assertEqual(max(len(past) for past in counter_of(PARTED)[1]), 1)
        self.assertEqual(list(counter_at(SQUARE, (HALF,))), [()])

    def test_nothing_bends_at_these_inputs(self):
        self.assertIs(is_right(WEIGHED), False)
        self.assertIsNone(counter_at(WEIGHED, (ZERO,)))
        self.assertIsNone(counter_at(LATE, (ZERO,)))
        self.assertIsNone(counter_of(TWICE))

    def test_drawn_programs(self):
        chance = random.Random(221)
        seen = {True: 0, False: 0}
        for _ in range(200):
            program = some_program(chance, 2, 9, WORDS)
            self.check(program, some_inputs(chance, 2))
            seen[is_right(program)] += 1
        self.assertGreater(min(seen.values()), 20)

    def test_odd_powers_do_not_hide(self):
        # A throw to both sides as far as each other has the right mean here.
        self.assertEqual(gap_of(CUBE, (ZERO,), {(): ASIDE}), ZERO)
        self.check(CUBE, (ZERO,))

    def test_what_is_told_is_the_callers(self):
        for program in [SQUARE, LATE]:
            inputs, rule = counter_of(program)
            kept = dict(rule)
            rule.clear()
            self.assertEqual(counter_of(program), (inputs, kept))
            at = counter_at(program, (whole(5),))
            kept = dict(at)
            at[()] = None
            self.assertEqual(counter_at(program, (whole(5),)), kept)

    def test_keys_are_not_changed(self):
        rule = {(ONE,): ASIDE, (): ASIDE}
        order = list(rule)
        gap_of(TWICE, (ZERO,), rule)
        is_counter(TWICE, ((ZERO,), rule))
        is_short(TWICE, (ZERO,), rule)
        self.assertEqual(list(rule), order)


class Short(unittest.TestCase):
    def test_by_the_first_rounding(self):
        self.assertIs(is_short(SQUARE, (ZERO,), {(): ASIDE}), True)
        self.assertIs(is_short(SQUARE, (ZERO,), {}), True)
        self.assertIs(is_short(SQUARE, (ZERO,), {(): ((ZERO, ONE),)}), True)
        self.assertIs(is_short(SQUARE, (ZERO,), {(): even_throw(3)}), False)

    def test_by_a_later_rounding(self):
        sure, two = ((ONE, ONE),), ((ZERO, HALF), (whole(2), HALF))
        at = (ONE,)
        self.assertEqual(bends_at(PARTED, at), (1,))
        self.assertIs(is_short(PARTED, at, {(): two}), True)
        self.assertIs(is_short(PARTED, at, {(): two, (ONE,): two}), True)
        self.assertIs(is_short(PARTED, at, {(ONE,): sure}), True)
        # Two keys of the greatest length, though one cannot come about; a key too long.
        self.assertIs(is_short(PARTED, at, {(ONE,): sure, (whole(2),): two}), False)
        self.assertIs(is_short(PARTED, at, {(ONE, ONE): sure}), False)
        self.assertIs(is_short(PARTED, at, {(): ((ZERO, (1, 4)), (ONE, HALF), (whole(2), (1, 4)))}), False)
        # At 0 a later one is the first that bends.
        zero = ((ZERO, ONE),)
        self.assertIs(is_short(PARTED, (ZERO,), {(ZERO,): zero, (ONE,): zero}), True)
        self.assertIs(is_short(PARTED, (ZERO,), {(ZERO, ZERO): zero, (ZERO, ONE): zero}), False)

    def test_where_nothing_bends(self):
        for program, inputs in [(TWICE, (ZERO,)), (WEIGHED, (ZERO,)), (NO_ROUNDINGS, (ZERO,))]:
            self.assertIs(is_short(program, inputs, {}), False)
        self.assertIs(is_short(WEIGHED, (ZERO,), {(): ASIDE}), False)


class NotPlainOnes(unittest.TestCase):
    def test_all_functions(self):
        for told, arguments in [(counter_of, ()), (counter_at, ((ZERO,),)), (is_short, ((ZERO,), {}))]:
            with self.assertRaises(NotPlain) as caught:
                told(CHOOSING, *arguments)
            self.assertEqual(caught.exception.step, 3)
