import random
import unittest
from fractions import Fraction

from chancegrain.errors import NotPlain
from chancegrain.forms import is_polynomial
from chancegrain.lots import error_lots, error_polynomial, lots_at, merged_lots
from chancegrain.polynomials import worth_at
from chancegrain.worths import exact_result, result_of
from tests.helpers import error_past, fraction_of, number, roundings_many, some_inputs, some_program, whole

WORDS = ["sum", "less", "times", "times", "round", "round"]
ONE, ZERO = (1, 1), (0, 1)
SQUARE = (1, (("input", 0), ("round", 0), ("times", 1, 1)))
TWICE = (1, (("input", 0), ("round", 0), ("round", 0), ("times", 1, 2)))
CHOOSING = (1, (("input", 0), ("choice", 0, 0, 0), ("round", 1)))


def product_of(errors, lot):
    product = Fraction(1)
    for error, count in zip(errors, lot):
        product *= number(error) ** count
    return product


class Polynomials(unittest.TestCase):
    def test_against_results(self):
        chance = random.Random(230)
        for _ in range(80):
            program = some_program(chance, 2, 9, WORDS)
            many = 2 + roundings_many(program)
            one = error_polynomial(program)
            self.assertIs(is_polynomial(many, one), True)
            for _ in range(4):
                inputs, errors = some_inputs(chance, 2), some_inputs(chance, many - 2)
                meant = result_of(program, inputs, error_past(program, inputs, errors))
                self.assertEqual(worth_at(one, inputs + errors), meant)

    def test_without_roundings(self):
        program = (2, (("input", 1), ("told", (1, 2)), ("times", 0, 1)))
        self.assertEqual(error_polynomial(program), (((0, 1), (1, 2)),))
        self.assertEqual([error_lots(program), lots_at(program, (ONE, ONE)), merged_lots(program, ())], [{}, {}, {}])

    def test_roundings_of_roundings(self):
        program = (1, (("input", 0), ("round", 0), ("round", 1)))
        self.assertEqual(error_polynomial(program), (((0, 0, 1), ONE), ((0, 1, 0), ONE), ((1, 0, 0), ONE)))
        self.assertEqual(list(error_lots(program)), [(0, 1), (1, 0)])

    def test_steps_that_are_not_needed_do_not_hinder(self):
        steps = [("input", 0), ("round", 0), ("sum", 0, 1)] + [("times", at, at) for at in range(2, 20)]
        self.assertEqual(list(error_lots((1, tuple(steps) + (("round", 1),)))), [(0, 1), (1, 0)])


class Lots(unittest.TestCase):
    def test_against_results(self):
        chance = random.Random(231)
        for _ in range(60):
            program = some_program(chance, 2, 9, WORDS)
            many = roundings_many(program)
            lots = error_lots(program)
            self.assertEqual(list(lots), sorted(lots))
            for lot, factor in lots.items():
                self.assertEqual(len(lot), many)
                self.assertGreater(sum(lot), 0)
                self.assertIs(is_polynomial(2, factor), True)
                self.assertNotEqual(factor, ())
            inputs, errors = some_inputs(chance, 2), some_inputs(chance, many)
            exact = number(exact_result(program, inputs))
            worths = {lot: number(worth_at(factor, inputs)) for lot, factor in lots.items()}
            total = exact + sum(worth * product_of(errors, lot) for lot, worth in worths.items())
            self.assertEqual(result_of(program, inputs, error_past(program, inputs, errors)), fraction_of(total))
            found = lots_at(program, inputs)
            self.assertEqual(list(found), sorted(found))
            self.assertEqual(found, {lot: fraction_of(worth) for lot, worth in worths.items() if worth != 0})

    def test_members_that_cancel(self):
        nothing = (1, SQUARE[1] + (("less", 2, 2),))
        self.assertEqual([error_polynomial(nothing), error_lots(nothing)], [(), {}])
        half = (1, (("input", 0), ("round", 0), ("round", 0), ("times", 1, 1), ("times", 2, 2), ("less", 3, 4)))
        self.assertEqual(sorted(error_lots(half)), [(0, 1), (0, 2), (1, 0), (2, 0)])
        # (x + e) ** 2 less x ** 2 less 2 * x * (x + e) leaves the square of the error, and of x.
        bare = (1, SQUARE[1] + (("times", 0, 1), ("sum", 3, 3), ("less", 2, 4)))
        self.assertEqual(error_lots(bare), {(2,): (((0,), ONE),)})

    def test_factors_that_vanish(self):
        self.assertEqual(lots_at(TWICE, (ZERO,)), {(1, 1): ONE})
        self.assertEqual(list(error_lots(TWICE)), [(0, 1), (1, 0), (1, 1)])
        weighed = (1, TWICE[1] + (("times", 0, 3),))
        self.assertEqual(lots_at(weighed, (ZERO,)), {})
        self.assertEqual(lots_at(weighed, (whole(2),)), {(0, 1): whole(4), (1, 0): whole(4), (1, 1): whole(2)})

    def test_dicts_are_the_callers(self):
        for told, more in [(error_lots, ()), (lots_at, ((ONE,),)), (merged_lots, ((0, 1),))]:
            found = told(TWICE, *more)
            kept = dict(found)
            found.clear()
            self.assertEqual(told(TWICE, *more), kept)
            self.assertIsNot(told(TWICE, *more), told(TWICE, *more))


class Merged(unittest.TestCase):
    def test_all_in_one_class(self):
        self.assertEqual(merged_lots(TWICE, (0, 0)), error_lots(SQUARE))
        self.assertEqual(merged_lots(SQUARE, (0,)), error_lots(SQUARE))

    def test_each_by_itself(self):
        self.assertEqual(merged_lots(TWICE, (0, 1)), error_lots(TWICE))
        turned = merged_lots((2, (("input", 0), ("input", 1), ("round", 0), ("round", 1), ("times", 2, 3))), (1, 0))
        self.assertEqual(turned, {(0, 1): (((0, 1), ONE),), (1, 0): (((1, 0), ONE),), (1, 1): (((0, 0), ONE),)})
        self.assertEqual(list(turned), sorted(turned))

    def test_lots_that_cancel_when_merged(self):
        apart = (1, (("input", 0), ("round", 0), ("round", 0), ("less", 1, 2)))
        self.assertEqual(list(error_lots(apart)), [(0, 1), (1, 0)])
        self.assertEqual(merged_lots(apart, (0, 0)), {})
        product = (1, apart[1] + (("times", 3, 1),))
        self.assertEqual(merged_lots(product, (0, 0)), {})

    def test_against_results(self):
        chance = random.Random(232)
        for _ in range(60):
            program = some_program(chance, 2, 9, WORDS)
            many = roundings_many(program)
            classes = tuple([0] + [chance.randint(0, 1) for _ in range(many - 1)])
            merged = merged_lots(program, classes)
            self.assertEqual(list(merged), sorted(merged))
            inputs, shared = some_inputs(chance, 2), some_inputs(chance, max(classes) + 1)
            errors = tuple([shared[at] for at in classes])
            total = number(exact_result(program, inputs))
            for lot, factor in merged.items():
                self.assertEqual(len(lot), len(shared))
                self.assertNotEqual(factor, ())
                total += number(worth_at(factor, inputs)) * product_of(shared, lot)
            self.assertEqual(result_of(program, inputs, error_past(program, inputs, errors)), fraction_of(total))


class NotPlainOnes(unittest.TestCase):
    def test_all_functions(self):
        for told, more in [(error_polynomial, ()), (error_lots, ()), (lots_at, ((ONE,),)), (merged_lots, ((0,),))]:
            with self.assertRaises(NotPlain) as caught:
                told(CHOOSING, *more)
            self.assertEqual(caught.exception.step, 1)
