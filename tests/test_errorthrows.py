import random
import unittest

from chancegrain.errors import TooMany
from chancegrain.errorthrows import are_error_throws, are_even, rule_of
from chancegrain.forms import is_throw
from chancegrain.fractions import added, is_ahead
from chancegrain.rules import is_rule, mean_of_throw, pasts_that_come
from chancegrain.worths import argument_of
from tests.helpers import even_throw, exchanged, odd_values, some_inputs, some_program, some_throw, whole

HALF, ONE, ZERO = (1, 2), (1, 1), (0, 1)
TWO = (1, (("input", 0), ("round", 0), ("sum", 1, 0), ("round", 2), ("times", 1, 3)))
NONE = (1, (("input", 0),))
SURE = ((ZERO, ONE),)
EVEN = ((whole(-1), (1, 4)), (ZERO, HALF), (whole(1), (1, 4)))
UNEVEN = ((whole(-1), (2, 3)), (whole(2), (1, 3)))


class Forms(unittest.TestCase):
    def test_error_throws(self):
        for thing in [(SURE, SURE), (EVEN, UNEVEN), (UNEVEN, SURE)]:
            self.assertIs(are_error_throws(TWO, thing), True, thing)
        self.assertIs(are_error_throws(NONE, ()), True)

    def test_edges(self):
        for thing in [
            (), (EVEN,), (EVEN,) * 3, [EVEN, EVEN], (EVEN, list(EVEN)), (EVEN, ()), (EVEN, ((ONE, ONE),)),
            (EVEN, ((whole(-1), HALF), (whole(2), HALF))), (EVEN, ((whole(1), HALF), (whole(-1), HALF))),
            (EVEN, ((whole(-1), (1, 4)), (whole(1), (1, 4)))), (EVEN, ((ZERO, (True, 1)),)),
            (EVEN, (((False, 1), ONE),)), (EVEN, None), None, {}, "ab", EVEN,
        ]:
            self.assertIs(are_error_throws(TWO, thing), False, thing)
        for thing in [[], {}, None, "", (SURE,), False]:
            self.assertIs(are_error_throws(NONE, thing), False, thing)

    def test_any_value(self):
        for thing in exchanged((EVEN, UNEVEN), odd_values()):
            meant = type(thing) is tuple and len(thing) == 2
            meant = meant and all(is_throw(part) and mean_of_throw(part) == ZERO for part in thing)
            self.assertIs(are_error_throws(TWO, thing), meant, thing)

    def test_even(self):
        self.assertIs(are_even(()), True)
        self.assertIs(are_even((SURE, EVEN, even_throw(2), even_throw(5))), True)
        self.assertIs(are_even((UNEVEN,)), False)
        self.assertIs(are_even((EVEN, UNEVEN)), False)
        self.assertIs(are_even((UNEVEN, EVEN)), False)
        # The values are even here, the chances are not.
        skew = ((whole(-2), (1, 6)), (whole(-1), (1, 6)), (ZERO, (1, 6)), (whole(1), HALF))
        self.assertEqual(mean_of_throw(skew), ZERO)
        self.assertIs(are_even((skew,)), False)
        lop = ((whole(-3), (1, 8)), (whole(-1), (3, 8)), (whole(1), (3, 8)), (whole(3), (1, 8)))
        self.assertIs(are_even((lop,)), True)
        bent = ((whole(-3), (2, 11)), (whole(-1), (3, 11)), (whole(1), (3, 11)), (whole(2), (3, 11)))
        self.assertEqual(mean_of_throw(bent), ZERO)
        self.assertIs(are_even((bent,)), False)
        chances = ((whole(-2), (2, 9)), (whole(-1), (1, 9)), (ZERO, (1, 3)), (whole(1), (1, 3)))
        mirrored_values = ((whole(-2), (1, 8)), (whole(-1), (3, 8)), (whole(1), (1, 8)), (whole(2), (3, 8)))
        self.assertIs(are_even((chances,)), False)
        self.assertIs(are_even((mirrored_values,)), False)


class Rules(unittest.TestCase):
    def test_keys_and_throws(self):
        chance = random.Random(20)
        for _ in range(80):
            program = some_program(chance, 2, 8, ["sum", "less", "times", "round", "round", "choice"])
            inputs = some_inputs(chance, 2)
            many = len([step for step in program[1] if step[0] == "round"])
            throws = tuple([some_throw(chance, ZERO) for _ in range(many)])
            rule = rule_of(program, inputs, throws)
            self.assertIs(is_rule(program, inputs, rule), True)
            for past, throw in rule.items():
                argument = argument_of(program, inputs, past)
                meant = [(added(argument, error), share) for error, share in throws[len(past)]]
                self.assertEqual(list(throw), meant)
            keys = list(rule)
            for one, other in zip(keys, keys[1:]):
                self.assertIs(is_ahead(one, other), True)
            come = []
            for count in range(many):
                come += [past for past, _ in pasts_that_come(program, inputs, rule, count)]
            self.assertEqual(set(keys), set(come))
            self.assertEqual(len(keys), len(come))

    def test_sure_throws_are_keys_too(self):
        self.assertEqual(rule_of(TWO, (HALF,), (SURE, SURE)), {(): ((HALF, ONE),), (HALF,): ((ONE, ONE),)})

    def test_without_roundings(self):
        self.assertEqual(rule_of(NONE, (HALF,), ()), {})

    def test_dicts_are_the_callers(self):
        throws = (EVEN, UNEVEN)
        found = rule_of(TWO, (HALF,), throws)
        kept = dict(found)
        found[()] = None
        del found[(HALF,)]
        self.assertEqual(rule_of(TWO, (HALF,), throws), kept)
        self.assertEqual(throws, (EVEN, UNEVEN))

    def test_bound(self):
        three = (1, (("input", 0), ("round", 0), ("round", 0), ("round", 0), ("sum", 1, 2)))
        rule = rule_of(three, (ZERO,), (even_throw(20), even_throw(20), even_throw(10)))
        self.assertEqual(len(rule), 1 + 20 + 400)
        self.assertEqual(len(pasts_that_come(three, (ZERO,), rule, 3)), 4000)
        self.assertEqual(len(rule_of(three, (ZERO,), (even_throw(4000), SURE, SURE))), 8001)
        for sizes in [(4001, 1, 1), (1, 1, 4001), (3, 1334, 1), (20, 20, 11), (2, 2001, 1)]:
            with self.assertRaises(TooMany) as caught:
                rule_of(three, (ZERO,), tuple([even_throw(size) for size in sizes]))
            self.assertEqual(caught.exception.most, 4000)
