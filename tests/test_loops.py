import random
import unittest

from chancegrain.forms import is_polynomial, is_program
from chancegrain.loops import exact_round, is_loop, led_goal, mean_behind, round_program, values_behind
from chancegrain.polynomials import worth_at
from chancegrain.programs import roundings_of
from chancegrain.rules import result_throw
from chancegrain.worths import exact_result, result_of
from tests.helpers import exchanged, fraction_of, number, odd_values, some_inputs, some_rule, whole
from tests.loophelpers import (
    HALF, ONE, ZERO, exact_worth, plain_goal, plain_mean, plain_round, some_goal, some_loop, some_loop_rule, steps_many,
)

STEPS = (("input", 0), ("input", 1), ("round", 0), ("told", HALF), ("times", 2, 3), ("sum", 1, 2))
LOOP = (2, STEPS, (4, 5))
X, Y = (((1, 0), ONE),), (((0, 1), ONE),)
STILL = (1, (("input", 0), ("sum", 0, 0)), (1,))


class Forms(unittest.TestCase):
    def test_loops(self):
        for thing in [
            LOOP, STILL, (2, STEPS, (0, 0)), (2, STEPS, (5, 5)), (1, (("told", ONE),), (0,)),
            (3, (("input", 2),), (0, 0, 0)), (2, (("input", 0), ("round", 0)), (1, 0)),
            (40, (("round", 0),) * 0 + (("input", 39),) * 30, (29,) * 40),
        ]:
            self.assertIs(is_loop(thing), True, thing)

    def test_edges(self):
        choosing = (("input", 0), ("choice", 0, 0, 0), ("input", 0))
        for thing in [
            (0, (("told", ONE),), ()), (True, (("input", 0),), (0,)), (-1, STEPS, ()), (2, STEPS, (4,)), (2, STEPS, ()),
            (2, STEPS, (4, 5, 0)), (2, STEPS, (4, 6)), (2, STEPS, (-1, 0)), (2, STEPS, (True, 0)), (2, STEPS, [4, 5]),
            (2, STEPS, (4, (5,))), (2, STEPS, 4), (2, STEPS), [2, STEPS, (4, 5)], (2, list(STEPS), (4, 5)),
            (2, STEPS, (4, 5), ()), (1, choosing, (0,)), (1, choosing, (1,)), (2, (), (0, 0)), (1, STEPS, (0,)),
            None, (), {}, "abc", 3, (2, STEPS, (4, None)), (2, STEPS, {4: 5}), (2, STEPS, "45"), (None, STEPS, (4, 5)),
        ]:
            self.assertIs(is_loop(thing), False, thing)

    def test_any_value(self):
        for thing in exchanged((1, (("input", 0), ("round", 0)), (1,)), odd_values()):
            meant = type(thing) is tuple and len(thing) == 3 and type(thing[0]) is int and thing[0] > 0
            meant = meant and is_program(thing[:2]) and all(step[0] != "choice" for step in thing[1])
            meant = meant and type(thing[2]) is tuple and len(thing[2]) == thing[0]
            meant = meant and all(type(at) is int and 0 <= at < len(thing[1]) for at in thing[2])
            self.assertIs(is_loop(thing), meant, thing)


class Exact(unittest.TestCase):
    def test_drawn_loops(self):
        chance = random.Random(300)
        for _ in range(60):
            many = chance.randint(1, 3)
            loop, goal = some_loop(chance, many, 8), some_goal(chance, many, 3, 2)
            values = some_inputs(chance, many)
            states = [number(value) for value in values]
            exact = exact_round(loop)
            self.assertEqual(len(exact), many)
            for count in range(4):
                self.assertEqual(values_behind(loop, values, count), tuple([fraction_of(state) for state in states]))
                led = led_goal(loop, goal, count)
                self.assertIs(is_polynomial(many, led), True)
                self.assertEqual(worth_at(led, values), fraction_of(plain_goal(goal, states)))
                states, _ = plain_round(loop, states, [])
            behind = tuple([worth_at(one, values) for one in exact])
            self.assertTrue(all(is_polynomial(many, one) for one in exact))
            self.assertEqual(values_behind(loop, values, 1), behind)

    def test_no_rounds(self):
        self.assertEqual(led_goal(LOOP, X, 0), X)
        self.assertEqual(values_behind(LOOP, (HALF, ONE), 0), (HALF, ONE))
        self.assertEqual(mean_behind(LOOP, X, (HALF, ONE), 0, {(): ((ZERO, HALF), (ONE, HALF))}), HALF)
        self.assertEqual(led_goal(LOOP, (), 3), ())

    def test_many_rounds(self):
        self.assertEqual(values_behind(STILL, ((1, 3),), 40), ((2 ** 40, 3),))
        self.assertEqual(led_goal(STILL, (((3,), HALF),), 40), (((3,), (2 ** 119, 1)),))
        self.assertEqual(led_goal(LOOP, Y, 40), (((0, 1), ONE), ((1, 0), (2 ** 40 - 1, 2 ** 39))))

    def test_states_that_no_step_reads_and_steps_named_twice(self):
        loop = (3, (("input", 1), ("round", 0), ("input", 0)), (1, 1, 2))
        y = (((0, 1, 0), ONE),)
        self.assertEqual(exact_round(loop), (y, y, (((1, 0, 0), ONE),)))
        self.assertEqual(values_behind(loop, (ONE, whole(2), whole(3)), 1), (whole(2), whole(2), ONE))
        self.assertEqual(values_behind(loop, (ONE, whole(2), whole(3)), 2), (whole(2), whole(2), whole(2)))
        rule = {(): ((ONE, HALF), (whole(3), HALF))}
        # Both states are one number, whatever it is.
        apart = (((0, 2, 0), ONE), ((1, 1, 0), whole(-1)))
        self.assertEqual(mean_behind(loop, apart, (ONE, whole(2), ZERO), 3, rule), ZERO)
        self.assertEqual(mean_behind(loop, (((0, 2, 0), ONE),), (ONE, whole(2), ZERO), 1, rule), whole(5))

    def test_steps_that_are_not_needed_do_not_hinder(self):
        chain = tuple([("times", at, at) for at in range(1, 8)])
        loop = (1, (("input", 0), ("sum", 0, 0)) + chain + (("round", 1),), (9,))
        self.assertEqual(values_behind(loop, ((1, 999999999),), 30), ((2 ** 30, 999999999),))
        self.assertEqual(mean_behind(loop, (((1,), ONE),), ((1, 999999999),), 30, {}), (2 ** 30, 999999999))
        self.assertEqual(exact_round(loop), ((((1,), whole(2)),),))


class Means(unittest.TestCase):
    def test_drawn_rules(self):
        chance = random.Random(301)
        seen = 0
        for _ in range(80):
            many = chance.randint(1, 2)
            loop, goal = some_loop(chance, many, 7), some_goal(chance, many, 3, 2)
            values = some_inputs(chance, many)
            count = chance.randint(0, 3)
            rule = some_loop_rule(chance, loop, values, 7, 12)
            seen += any(len(past) > steps_many(loop) for past in rule)
            meant = plain_mean(loop, goal, values, count, rule)
            self.assertEqual(mean_behind(loop, goal, values, count, rule), fraction_of(meant))
        self.assertGreater(seen, 20)

    def test_keys_as_long_as_the_roundings_that_come_mean_nothing(self):
        low = ((whole(-1), HALF), (ONE, HALF))
        rule = {(): low, (ONE,): ((ZERO, HALF), (ONE, HALF)), (ONE, ONE): ((whole(-9), HALF), (whole(10), HALF))}
        square = (((2, 0), ONE),)
        values = (ZERO, ZERO)
        self.assertEqual(mean_behind(LOOP, square, values, 1, rule), (1, 4))
        self.assertEqual(mean_behind(LOOP, square, values, 1, {(): low}), (1, 4))
        two = {past: rule[past] for past in [(ONE,), ()]}
        self.assertEqual(mean_behind(LOOP, square, values, 2, rule), mean_behind(LOOP, square, values, 2, two))
        self.assertNotEqual(mean_behind(LOOP, square, values, 3, rule), mean_behind(LOOP, square, values, 3, two))
        self.assertEqual(list(two), [(ONE,), ()])

    def test_a_rule_that_looks_back_over_rounds(self):
        # x becomes what it is rounded to; the third round throws wide if the first came to 1.
        loop = (1, (("input", 0), ("round", 0)), (1,))
        aside = ((whole(-1), HALF), (ONE, HALF))
        rule = {(): aside, (ONE, ONE): ((whole(-3), HALF), (whole(5), HALF))}
        square = (((2,), ONE),)
        self.assertEqual([mean_behind(loop, square, (ZERO,), count, rule) for count in range(4)],
                         [ZERO, ONE, ONE, whole(9)])
        self.assertEqual(mean_behind(loop, (((1,), ONE),), (ZERO,), 40, rule), ZERO)

    def test_without_roundings(self):
        self.assertEqual(mean_behind(STILL, (((1,), ONE),), (ONE,), 5, {}), whole(32))


class Programs(unittest.TestCase):
    def test_drawn_loops(self):
        chance = random.Random(302)
        for _ in range(60):
            many = chance.randint(1, 3)
            loop, goal = some_loop(chance, many, 8), some_goal(chance, many, 4, 3)
            program = round_program(loop, goal)
            self.assertIs(is_program(program), True)
            self.assertEqual(program[0], many)
            self.assertEqual(len(roundings_of(program)), steps_many(loop))
            values = some_inputs(chance, many)
            self.assertEqual(exact_result(program, values), fraction_of(exact_worth(loop, goal, values, 1)))
            past = some_inputs(chance, steps_many(loop))
            states, arguments = plain_round(loop, [number(value) for value in values], [number(one) for one in past])
            self.assertEqual(result_of(program, values, past), fraction_of(plain_goal(goal, states)))
            rule = some_rule(chance, program, values)
            mean = sum(number(value) * number(share) for value, share in result_throw(program, values, rule))
            self.assertEqual(mean_behind(loop, goal, values, 1, rule), fraction_of(mean))

    def test_goals_of_few_members(self):
        for goal, worth in [((), 0), ((((0, 0), whole(7)),), 7), (X, 2), (Y, 7), ((((3, 0), ONE),), 8)]:
            self.assertEqual(exact_result(round_program(LOOP, goal), (whole(4), whole(3))), whole(worth))
            self.assertEqual(roundings_of(round_program(LOOP, goal)), (2,))

    def test_no_step_is_left_out(self):
        unused = (1, (("input", 0), ("round", 0), ("round", 1)), (0,))
        self.assertEqual(len(roundings_of(round_program(unused, (((1,), ONE),)))), 2)
        self.assertEqual(len(roundings_of(round_program(unused, ()))), 2)
