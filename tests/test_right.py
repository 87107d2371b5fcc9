"""Tests of rounded.py and right.py."""

import random
import unittest

from chancegrain.errors import NotPlain
from chancegrain.forms import is_polynomial
from chancegrain.polynomials import degree_in, unit, worth_at
from chancegrain.right import bends, bends_at, is_right, right_at
from chancegrain.rounded import later_exact, rounded_argument, rounded_result
from chancegrain.rules import mean_of
from chancegrain.worths import argument_of, exact_result, result_of
from tests.helpers import plain_mean, fraction_of, some_inputs, some_program, some_rule, whole

WORDS = ["sum", "less", "times", "times", "round", "round"]
SQUARE = (1, (("input", 0), ("round", 0), ("times", 1, 1)))
TWICE = (1, (("input", 0), ("round", 0), ("round", 0), ("times", 1, 2)))
WEIGHED = (1, SQUARE[1] + (("times", 0, 2),))
BEHIND = (2, (
    ("input", 0), ("input", 1), ("round", 0), ("round", 1), ("less", 3, 1), ("times", 2, 2), ("times", 5, 4),
))
CHOOSING = (1, (("input", 0), ("round", 0), ("choice", 0, 1, 0), ("choice", 0, 0, 0), ("input", 0)))
CHOOSING_ONLY = (1, (("input", 0), ("choice", 0, 0, 0)))


def roundings(program):
    return len([step for step in program[1] if step[0] == "round"])


def exact_behind(program, inputs, past):
    """The past, all further roundings coming to their arguments."""
    while len(past) < roundings(program):
        past = past + (argument_of(program, inputs, past),)
    return past


class Polynomials(unittest.TestCase):
    def test_against_worths(self):
        chance = random.Random(21)
        for _ in range(60):
            program = some_program(chance, 2, 8, WORDS)
            many = 2 + roundings(program)
            inputs = some_inputs(chance, 2)
            past = some_inputs(chance, many - 2)
            result = rounded_result(program)
            self.assertIs(is_polynomial(many, result), True)
            self.assertEqual(worth_at(result, inputs + past), result_of(program, inputs, past))
            for count in range(many - 2):
                argument = rounded_argument(program, count)
                self.assertIs(is_polynomial(many, argument), True)
                self.assertEqual(worth_at(argument, inputs + past), argument_of(program, inputs, past[:count]))
                self.assertTrue(all(degree_in(argument, place) == 0 for place in range(2 + count, many)))
            for count in range(many - 1):
                later = later_exact(program, count)
                self.assertIs(is_polynomial(many, later), True)
                meant = result_of(program, inputs, exact_behind(program, inputs, past[:count]))
                self.assertEqual(worth_at(later, inputs + past), meant)
                self.assertTrue(all(degree_in(later, place) == 0 for place in range(2 + count, many)))
            self.assertEqual(later_exact(program, many - 2), result)
            self.assertEqual(worth_at(later_exact(program, 0), inputs + past), exact_result(program, inputs))

    def test_plain_ones(self):
        self.assertEqual(rounded_result(TWICE), (((0, 1, 1), (1, 1)),))
        self.assertEqual(later_exact(TWICE, 1), (((1, 1, 0), (1, 1)),))
        self.assertEqual(later_exact(TWICE, 0), (((2, 0, 0), (1, 1)),))
        self.assertEqual([rounded_argument(TWICE, 0), rounded_argument(TWICE, 1)], [unit(3, 0), unit(3, 0)])
        chained = (1, (("input", 0), ("round", 0), ("round", 1), ("round", 2)))
        self.assertEqual([rounded_argument(chained, at) for at in range(3)], [unit(4, 0), unit(4, 1), unit(4, 2)])
        self.assertEqual([later_exact(chained, at) for at in range(4)], [unit(4, at) for at in range(4)])
        self.assertEqual(later_exact(BEHIND, 1), ())
        none = (2, (("input", 1), ("told", (1, 2)), ("times", 0, 1)))
        self.assertEqual(rounded_result(none), (((0, 1), (1, 2)),))
        self.assertEqual(later_exact(none, 0), (((0, 1), (1, 2)),))

    def test_steps_that_are_not_needed_do_not_hinder(self):
        steps = [("input", 0), ("round", 0), ("sum", 0, 1)] + [("times", at, at) for at in range(2, 20)]
        program = (1, tuple(steps) + (("round", 1),))
        self.assertEqual(rounded_result(program), unit(3, 2))
        self.assertEqual(rounded_argument(program, 1), unit(3, 1))
        self.assertIs(is_right(program), True)


class NotPlainOnes(unittest.TestCase):
    def test_all_functions(self):
        for program, step in [(CHOOSING, 2), (CHOOSING_ONLY, 1)]:
            inputs = (whole(1),)
            for told, arguments in [
                (rounded_result, ()), (rounded_argument, (0,)), (later_exact, (0,)), (bends, ()), (is_right, ()),
                (bends_at, (inputs,)), (right_at, (inputs,)),
            ]:
                with self.assertRaises(NotPlain) as caught:
                    told(program, *arguments)
                self.assertEqual(caught.exception.step, step, told.__name__)


class Right(unittest.TestCase):
    def test_examples_of_the_document(self):
        self.assertEqual([bends(SQUARE), is_right(SQUARE), bends(TWICE), is_right(TWICE)], [(0,), False, (), True])
        self.assertEqual(bends_at(WEIGHED, (whole(0),)), ())
        self.assertEqual(bends_at(WEIGHED, (whole(3),)), (0,))
        self.assertEqual([right_at(WEIGHED, (whole(0),)), right_at(WEIGHED, (whole(3),))], [True, False])
        self.assertEqual([bends(WEIGHED), bends(BEHIND), is_right(BEHIND)], [(0,), (), True])

    def test_several_bends(self):
        both = (1, SQUARE[1] + (("round", 2), ("times", 3, 3)))
        self.assertEqual(bends(both), (0, 1))
        # Each square falls away where the input that it is multiplied with is 0.
        steps = (("input", 0), ("input", 1), ("round", 0), ("times", 2, 2), ("times", 3, 0), ("round", 1),
                 ("times", 5, 5), ("times", 6, 1), ("sum", 4, 7))
        parted = (2, steps)
        self.assertEqual(bends(parted), (0, 1))
        for inputs, meant in [((1, 1), (0, 1)), ((0, 1), (1,)), ((1, 0), (0,)), ((0, 0), ())]:
            inputs = tuple([whole(value) for value in inputs])
            self.assertEqual(bends_at(parted, inputs), meant)
            self.assertIs(right_at(parted, inputs), meant == ())

    def test_degrees(self):
        chance = random.Random(23)
        seen = {True: 0, False: 0}
        for _ in range(200):
            program = some_program(chance, 2, 10, WORDS)
            meant = [at for at in range(roundings(program)) if degree_in(later_exact(program, at + 1), 2 + at) > 1]
            self.assertEqual(bends(program), tuple(meant))
            self.assertIs(is_right(program), meant == [])
            seen[meant == []] += 1
        self.assertGreater(min(seen.values()), 25)

    def test_squares_that_cancel(self):
        self.assertEqual(bends((1, SQUARE[1] + (("less", 2, 2), ("sum", 3, 1)))), ())
        # The square of the first is taken from the product with the second, which is exact in the mean.
        steps = (("input", 0), ("round", 0), ("round", 1), ("times", 1, 1), ("times", 1, 2), ("less", 3, 4))
        self.assertEqual([bends((1, steps)), later_exact((1, steps), 1)], [(), ()])

    def test_without_roundings(self):
        program = (1, (("input", 0), ("times", 0, 0)))
        self.assertEqual([bends(program), is_right(program)], [(), True])
        self.assertEqual([bends_at(program, (whole(2),)), right_at(program, (whole(2),))], [(), True])

    def test_means_by_rules_that_look_back(self):
        chance = random.Random(22)
        seen = {True: 0, False: 0}
        for _ in range(150):
            program = some_program(chance, 2, 8, WORDS)
            inputs = some_inputs(chance, 2)
            exact = exact_result(program, inputs)
            right = right_at(program, inputs)
            self.assertIs(right, bends_at(program, inputs) == ())
            if is_right(program):
                self.assertIs(right, True)
            means = [mean_of(program, inputs, some_rule(chance, program, inputs)) for _ in range(12)]
            self.assertIs(all(mean == exact for mean in means), right, (program, inputs))
            seen[right] += 1
        self.assertGreater(min(seen.values()), 20)

    def test_a_rule_that_looks_back_at_a_right_program(self):
        steps = (("input", 0), ("round", 0), ("input", 1), ("round", 2), ("times", 1, 3), ("round", 4))
        program = (2, steps)
        self.assertIs(is_right(program), True)
        inputs = ((1, 2), (1, 3))
        rule = {
            (): ((whole(0), (1, 2)), (whole(1), (1, 2))),
            (whole(1),): ((whole(0), (2, 3)), (whole(1), (1, 3))),
            (whole(1), whole(1)): ((whole(-1), (1, 3)), (whole(2), (2, 3))),
        }
        self.assertEqual(mean_of(program, inputs, rule), (1, 6))
        self.assertEqual(fraction_of(plain_mean(program, inputs, rule)), (1, 6))
        self.assertEqual(exact_result(program, inputs), (1, 6))
