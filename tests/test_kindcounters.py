import random
import unittest

from chancegrain.errors import NotPlain
from chancegrain.errorthrows import are_error_throws, are_even
from chancegrain.forms import are_inputs
from chancegrain.kindcounters import even_counter, is_even_counter, is_own_counter, own_counter
from chancegrain.kinds import is_even_right, is_own_right
from chancegrain.worths import exact_result
from tests.helpers import (
    error_rule, even_throw, exchanged, number, odd_values, plain_mean, roundings_many, some_inputs, some_program,
    some_throw, whole,
)

WORDS = ["sum", "less", "times", "times", "times", "round", "round"]
HALF, ONE, ZERO = (1, 2), (1, 1), (0, 1)
INPUT = ("input", 0)
SQUARE = (1, (INPUT, ("round", 0), ("times", 1, 1)))
TWICE = (1, (INPUT, ("round", 0), ("round", 0), ("times", 1, 2)))
ERROR = (1, (INPUT, ("round", 0), ("less", 1, 0)))
E_CUBED = (1, ERROR[1] + (("times", 2, 2), ("times", 3, 2)))
NO_ROUNDINGS = (1, (INPUT, ("times", 0, 0)))
CHOOSING = (1, (INPUT, ("round", 0), ("choice", 0, 0, 1)))
# The square of the error, times x, x - 1 and x + 1.
VANISHING = (1, ERROR[1] + (
    ("times", 2, 2), ("told", ONE), ("less", 0, 4), ("sum", 0, 4), ("times", 3, 0), ("times", 7, 5), ("times", 8, 6),
))
# The squares of two errors, one less the other: they make up for each other if they are as likely.
MAKING_UP = (1, ERROR[1] + (("round", 0), ("less", 3, 0), ("times", 2, 2), ("times", 4, 4), ("less", 5, 6)))
# The square of an error less the cube of it.
SIZES = (1, ERROR[1] + (("times", 2, 2), ("times", 3, 2), ("less", 3, 4)))
UNEVEN = ((whole(-1), (2, 3)), (whole(2), (1, 3)))
EVEN = ((whole(-1), HALF), (whole(1), HALF))
SURE = ((ZERO, ONE),)


def gap(program, inputs, throws):
    return plain_mean(program, inputs, error_rule(program, inputs, throws)) - number(exact_result(program, inputs))


class Told(unittest.TestCase):
    def check(self, program):
        own, even = own_counter(program), even_counter(program)
        self.assertIs(own is None, is_own_right(program))
        self.assertIs(even is None, is_even_right(program))
        for found in [own, even]:
            if found is not None:
                inputs, throws = found
                self.assertIs(are_inputs(program, inputs), True)
                self.assertIs(are_error_throws(program, throws), True)
                self.assertNotEqual(gap(program, inputs, throws), 0)
                self.assertIs(is_own_counter(program, found), True)
        if even is not None:
            self.assertIs(are_even(even[1]), True)
            self.assertIs(is_even_counter(program, even), True)

    def test_chosen_programs(self):
        for program in [SQUARE, TWICE, ERROR, E_CUBED, NO_ROUNDINGS, VANISHING, MAKING_UP, SIZES]:
            self.check(program)

    def test_factors_that_vanish_at_simple_inputs(self):
        for value in [0, 1, -1]:
            self.assertIs(is_own_counter(VANISHING, ((whole(value),), (UNEVEN,))), False)
            self.assertIs(is_even_counter(VANISHING, ((whole(value),), (EVEN,))), False)
        self.assertIs(is_even_counter(VANISHING, ((whole(2),), (EVEN,))), True)

    def test_lots_that_make_up_for_each_other(self):
        self.assertIs(is_own_counter(MAKING_UP, ((ZERO,), (UNEVEN, UNEVEN))), False)
        self.assertIs(is_own_counter(MAKING_UP, ((ZERO,), (UNEVEN, EVEN))), True)
        self.assertIs(is_even_counter(MAKING_UP, ((ZERO,), (EVEN, EVEN))), False)
        self.assertIs(is_even_counter(MAKING_UP, ((ZERO,), (SURE, EVEN))), True)
        # For the throw of -1 and 2 the moments of 2 and of 3 are as great.
        self.assertIs(is_own_counter(SIZES, ((ZERO,), (UNEVEN,))), False)
        self.assertIsNotNone(own_counter(SIZES))

    def test_drawn_programs(self):
        chance = random.Random(250)
        seen = [0, 0, 0]
        for _ in range(150):
            program = some_program(chance, 2, 9, WORDS)
            self.check(program)
            seen[is_own_right(program) + is_even_right(program)] += 1
        self.assertGreater(min(seen[0], seen[2]), 20)


class Counters(unittest.TestCase):
    def test_against_means(self):
        chance = random.Random(251)
        for _ in range(100):
            program = some_program(chance, 2, 9, WORDS)
            inputs = some_inputs(chance, 2)
            many = roundings_many(program)
            for throws in [
                tuple([some_throw(chance, ZERO) for _ in range(many)]),
                tuple([even_throw(chance.randint(1, 3)) for _ in range(many)]),
            ]:
                off = gap(program, inputs, throws) != 0
                self.assertIs(is_own_counter(program, (inputs, throws)), off)
                self.assertIs(is_even_counter(program, (inputs, throws)), off and are_even(throws))

    def test_even_ones(self):
        self.assertIs(is_own_counter(E_CUBED, ((ZERO,), (UNEVEN,))), True)
        self.assertIs(is_even_counter(E_CUBED, ((ZERO,), (UNEVEN,))), False)
        self.assertIs(is_own_counter(E_CUBED, ((ZERO,), (EVEN,))), False)
        self.assertIs(is_even_counter(SQUARE, ((ZERO,), (EVEN,))), True)
        self.assertIs(is_even_counter(SQUARE, ((ZERO,), (UNEVEN,))), False)

    def test_many_pasts(self):
        # 70 ** 3 pasts come about by these.
        three = (1, (INPUT, ("round", 0), ("round", 0), ("round", 0), ("times", 1, 2), ("times", 4, 3)))
        throws = (even_throw(70),) * 3
        self.assertIs(is_own_counter(three, ((ONE,), throws)), False)
        self.assertIs(is_own_counter((1, three[1] + (("times", 4, 1),)), ((ONE,), throws)), True)
        self.assertIs(is_even_counter((1, three[1] + (("times", 4, 1),)), ((ONE,), throws)), True)

    def test_edges(self):
        for thing in [
            None, (), ((ONE,),), ((ONE,), (EVEN,), ()), [(ONE,), (EVEN,)], ((ONE,), [EVEN]), ([ONE], (EVEN,)),
            ((), (EVEN,)), ((ONE, ONE), (EVEN,)), ((ONE,), ()), ((ONE,), (EVEN, EVEN)), (ONE, (EVEN,)),
            ((ONE,), EVEN), ((ONE,), (list(EVEN),)), ((ONE,), (SURE,)), ((ONE,), (((ONE, ONE),),)),
            (((True, 1),), (EVEN,)), (((1, True),), (EVEN,)), ((ONE,), (((whole(-1), HALF), ((True, 1), HALF)),)),
            ((ONE,), (((whole(-1), HALF), (whole(2), HALF)),)), ((ONE,), (tuple(reversed(EVEN)),)),
            ((ONE,), {(): EVEN}), ((EVEN,), (ONE,)),
        ]:
            self.assertIs(is_own_counter(SQUARE, thing), False, thing)
            self.assertIs(is_even_counter(SQUARE, thing), False, thing)

    def test_any_value(self):
        right = ((ONE,), (EVEN,))
        for thing in exchanged(right, odd_values()):
            meant = type(thing) is tuple and len(thing) == 2 and are_inputs(SQUARE, thing[0])
            meant = meant and are_error_throws(SQUARE, thing[1]) and thing[1] != (SURE,)
            self.assertIs(is_own_counter(SQUARE, thing), meant, thing)

    def test_without_roundings(self):
        self.assertIs(is_own_counter(NO_ROUNDINGS, ((ONE,), ())), False)
        self.assertIs(is_even_counter(NO_ROUNDINGS, ((ONE,), ())), False)


class NotPlainOnes(unittest.TestCase):
    def test_all_functions(self):
        for thing in [None, ((ONE,), (EVEN,)), [], ((ONE,), None)]:
            for told, more in [
                (own_counter, ()), (even_counter, ()), (is_own_counter, (thing,)), (is_even_counter, (thing,)),
            ]:
                with self.assertRaises(NotPlain) as caught:
                    told(CHOOSING, *more)
                self.assertEqual(caught.exception.step, 2)
