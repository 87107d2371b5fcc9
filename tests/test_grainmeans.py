import random
import unittest

from chancegrain.grainmeans import greatest_mean, greatest_plan, least_mean, least_plan
from chancegrain.reaches import is_on_grains
from chancegrain.rules import is_rule, mean_of, pasts_that_come
from tests.grainhelpers import (
    LATER, SINGLE, all_rules, choosing, plain_best, some_case, some_grain_rule,
)
from tests.helpers import fraction_of, number, plain_mean, whole

HALF, ONE, ZERO = (1, 2), (1, 1), (0, 1)
NONE = (1, (("input", 0), ("times", 0, 0)))
WORDS = ["sum", "less", "times", "times", "round", "round", "choice"]


class Means(unittest.TestCase):
    def check_plan(self, program, inputs, grains, plan, mean):
        self.assertIs(is_rule(program, inputs, plan), True)
        self.assertIs(is_on_grains(program, inputs, grains, plan), True)
        self.assertTrue(all(len(throw) <= 2 for throw in plan.values()))
        come = [past for count in range(len(grains)) for past, _ in pasts_that_come(program, inputs, plan, count)]
        # Ascending: item by item, what begins another one ahead of it.
        meant = sorted(come, key=lambda past: [number(item) for item in past])
        self.assertEqual(list(plan), meant)
        self.assertEqual(plain_mean(program, inputs, plan), mean)
        self.assertEqual(mean_of(program, inputs, plan), fraction_of(mean))

    def check(self, program, inputs, grains):
        greatest = plain_best(program, inputs, grains, max)
        least = plain_best(program, inputs, grains, min)
        self.assertEqual(greatest_mean(program, inputs, grains), fraction_of(greatest))
        self.assertEqual(least_mean(program, inputs, grains), fraction_of(least))
        self.check_plan(program, inputs, grains, greatest_plan(program, inputs, grains), greatest)
        self.check_plan(program, inputs, grains, least_plan(program, inputs, grains), least)
        return least, greatest

    def test_drawn_programs_and_rules(self):
        chance = random.Random(340)
        unlike = 0
        while unlike < 60:
            program, inputs, grains = some_case(chance, words=WORDS)
            if least_mean(program, inputs, grains) == greatest_mean(program, inputs, grains) and chance.random() < 0.7:
                continue
            least, greatest = self.check(program, inputs, grains)
            unlike += least != greatest
            for _ in range(6):
                rule = some_grain_rule(chance, program, inputs, grains)
                self.assertIs(is_on_grains(program, inputs, grains, rule), True)
                self.assertTrue(least <= plain_mean(program, inputs, rule) <= greatest)

    def test_all_rules_of_small_grains(self):
        chance = random.Random(341)
        seen = 0
        while seen < 25:
            program, inputs, grains = some_case(chance, most=3, words=WORDS, count=8)
            _, throws, rules = all_rules(program, inputs, grains)
            many = 1
            for told in throws:
                many *= len(told)
            least, greatest = [number(told(program, inputs, grains)) for told in (least_mean, greatest_mean)]
            if many > 300 or (least == greatest and chance.random() < 0.8):
                continue
            means = [plain_mean(program, inputs, rule) for rule in rules]
            self.assertEqual((min(means), max(means)), (least, greatest))
            seen += 1

    def test_tests_that_are_0_just_below_and_just_above(self):
        grains = ((ONE, whole(2)),)
        # Rounded to -1, 0, 1 or 2, squared from the limit on.
        for limit in [
            ZERO, (1, 1000), (-1, 1000), ONE, (999, 1000), (1001, 1000), whole(2), (1999, 1000), (2001, 1000),
            whole(-1), (-1001, 1000), (-999, 1000),
        ]:
            self.check(choosing(limit), ((1, 4),), grains)
        self.assertEqual(greatest_mean(choosing(whole(2)), (HALF,), grains), whole(2))
        self.assertEqual(greatest_mean(choosing((2001, 1000)), (HALF,), grains), ZERO)
        self.assertEqual(least_mean(choosing(ONE), (HALF,), ((ONE, ONE),)), HALF)
        self.assertEqual(least_mean(choosing((1001, 1000)), (HALF,), ((ONE, ONE),)), ZERO)
        self.assertEqual(greatest_mean(choosing(ONE), (ZERO,), ((ONE, ONE),)), HALF)
        self.assertEqual(greatest_mean(choosing((1001, 1000)), (ZERO,), ((ONE, ONE),)), ZERO)

    def test_without_roundings_and_without_inputs(self):
        self.assertEqual([greatest_mean(NONE, (whole(3),), ()), least_mean(NONE, (whole(3),), ())], [whole(9)] * 2)
        self.assertEqual([greatest_plan(NONE, (whole(3),), ()), least_plan(NONE, (whole(3),), ())], [{}, {}])
        program = (0, (("told", HALF), ("round", 0), ("times", 1, 1)))
        self.check(program, (), ((ONE, whole(2)),))
        self.assertEqual(greatest_mean(program, (), ((ONE, whole(2)),)), (5, 2))

    def test_sure_throws_stand_in_plans(self):
        self.assertEqual(least_plan(SINGLE, (ONE,), ((ONE, whole(2)),)), {(): ((ONE, ONE),)})
        exact = (1, (("input", 0), ("round", 0), ("round", 1), ("less", 1, 2), ("times", 3, 3)))
        plan = least_plan(exact, (HALF,), ((ONE, ONE), (ONE, ONE)))
        self.assertEqual(list(plan), [(), (ZERO,), (ONE,)])
        self.assertEqual([plan[(ZERO,)], plan[(ONE,)]], [((ZERO, ONE),), ((ONE, ONE),)])

    def test_a_rounding_that_nothing_uses(self):
        program = (1, (("input", 0), ("round", 0), ("round", 1), ("told", whole(5))))
        self.check(program, ((1, 3),), ((HALF, ONE), ((1, 3), (2, 3))))
        # Steps that nothing needs may be far too long to be worked out.
        steps = (("input", 0), ("round", 0)) + tuple([("times", at, at) for at in range(1, 13)]) + (("less", 1, 0),)
        self.assertEqual(greatest_mean((1, steps), ((10 ** 8 + 1, 10 ** 9),), ((ONE, whole(999)),)), ZERO)

    def test_a_chain_of_five(self):
        steps = (("input", 0), ("input", 1)) + tuple([("round", at) for at in range(1, 6)]) + (("times", 6, 6),)
        self.check((2, steps), (ZERO, HALF), ((ONE, ONE),) * 5)

    def test_dicts_are_the_callers(self):
        for plan in [greatest_plan, least_plan]:
            grains, inputs = ((ONE, ONE), ((1, 3), (1, 2))), (HALF, (1, 5))
            found = plan(LATER, inputs, grains)
            kept = dict(found)
            found.clear()
            again = plan(LATER, inputs, grains)
            self.assertEqual(again, kept)
            self.assertIsNot(again, plan(LATER, inputs, grains))
