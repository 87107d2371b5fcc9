import random
import unittest
from fractions import Fraction

from chancegrain.draws import fewest_draws, is_fair, unfair_rule, use_for, use_mean
from chancegrain.forms import are_fractions, is_polynomial, is_throw
from chancegrain.polynomials import multiplied, plus, scaled, unit, worth_at
from chancegrain.rules import mean_of_throw
from tests.helpers import fraction_of, number, plain_worth, some_inputs, some_throw, whole

HALF, ONE, ZERO = (1, 2), (1, 1), (0, 1)
ASIDE = ((whole(-1), HALF), (whole(1), HALF))
SQUARE = (((2,), ONE),)
MIXED = (((0, 1), ONE), ((2, 0), whole(3)))


def owners(counts):
    return [quantity for quantity, count in enumerate(counts) for _ in range(count)]


def plain_mean(counts, use, values, rule, past=()):
    """The mean of a use, by an independent reckoning."""
    quantities = owners(counts)
    if len(past) == len(quantities):
        return plain_worth(use, past)
    throw = rule.get(past, ((values[quantities[len(past)]], ONE),))
    return sum(number(share) * plain_mean(counts, use, values, rule, past + (value,)) for value, share in throw)


def draw_rule(chance, counts, values):
    """A draw rule that looks back at all earlier draws."""
    rule, quantities, waiting = {}, owners(counts), [()]
    while waiting:
        past = waiting.pop()
        if len(past) < len(quantities):
            throw = some_throw(chance, values[quantities[len(past)]])
            if len(past) > 3:
                throw = ((values[quantities[len(past)]], ONE),)
            if len(throw) > 1 or chance.random() < 0.5:
                rule[past] = throw
            waiting.extend([past + (value,) for value, _ in throw])
    return rule


def some_polynomial(chance, many, members, most):
    factors = {}
    for _ in range(members):
        powers = tuple([chance.randint(0, most) for _ in range(many)])
        factors[powers] = fraction_of(Fraction(chance.choice([-3, -2, -1, 1, 2, 3]), chance.randint(1, 3)))
    return tuple([(powers, factors[powers]) for powers in sorted(factors)])


class Uses(unittest.TestCase):
    def test_fewest(self):
        self.assertEqual(fewest_draws(2, MIXED), (2, 1))
        self.assertEqual(fewest_draws(2, ()), (0, 0))
        self.assertEqual(fewest_draws(0, ()), ())
        self.assertEqual(fewest_draws(0, (((), whole(5)),)), ())
        self.assertEqual(fewest_draws(3, (((0, 0, 0), ONE), ((0, 4, 1), ONE), ((1, 0, 2), ONE))), (1, 4, 2))

    def test_use_for(self):
        self.assertEqual(use_for(2, MIXED, (2, 1)), (((0, 0, 1), ONE), ((1, 1, 0), whole(3))))
        self.assertEqual(use_for(2, MIXED, (3, 2)), (((0, 0, 0, 1, 0), ONE), ((1, 1, 0, 0, 0), whole(3))))
        self.assertEqual(use_for(1, (((0,), HALF), ((1,), ONE), ((2,), ONE)), (2,)),
                         (((0, 0), HALF), ((1, 0), ONE), ((1, 1), ONE)))
        self.assertEqual(use_for(2, (((1, 0), ONE),), (1, 0)), (((1,), ONE),))

    def test_one_draw_too_few(self):
        for counts in [(1, 1), (2, 0), (1, 5), (0, 0), (1, 0)]:
            self.assertIsNone(use_for(2, MIXED, counts), counts)
        self.assertIsNone(use_for(1, SQUARE, (1,)))

    def test_no_quantities_and_no_draws(self):
        five = (((), whole(5)),)
        self.assertEqual(use_for(0, five, ()), five)
        self.assertIs(is_fair(0, five, (), five), True)
        self.assertIs(is_fair(0, five, (), ()), False)
        self.assertEqual(use_mean((), five, (), {}), whole(5))
        self.assertIsNone(unfair_rule(0, five, (), five))
        self.assertEqual(unfair_rule(0, five, (), ()), ((), {}))
        constant = (((0, 0), whole(5)),)
        self.assertEqual(use_for(2, constant, (0, 0)), five)
        self.assertIs(is_fair(2, constant, (0, 0), five), True)
        values, rule = unfair_rule(2, MIXED, (0, 0), five)
        self.assertEqual(rule, {})
        self.assertNotEqual(worth_at(MIXED, values), whole(5))

    def test_goal_nothing(self):
        self.assertEqual(use_for(1, (), (2,)), ())
        self.assertIs(is_fair(1, (), (2,), ()), True)
        self.assertIs(is_fair(1, (), (2,), (((0, 1), whole(-1)), ((1, 0), ONE))), True)
        self.assertIs(is_fair(1, (), (2,), (((0, 1), ONE),)), False)
        # What becomes nothing may yet have a square in it.
        squares = (((0, 2), whole(-1)), ((2, 0), ONE))
        self.assertIs(is_fair(1, (), (2,), squares), False)
        self.assertIsNotNone(unfair_rule(1, (), (2,), squares))


class Fair(unittest.TestCase):
    def check(self, many, goal, counts, use):
        fair = is_fair(many, goal, counts, use)
        found = unfair_rule(many, goal, counts, use)
        self.assertIs(found is None, fair)
        if found is not None:
            values, rule = found
            self.assertEqual([are_fractions(values), len(values)], [True, many])
            quantities = owners(counts)
            for past, throw in rule.items():
                self.assertIs(are_fractions(past), True)
                self.assertIs(is_throw(throw), True)
                self.assertLessEqual(len(throw), 2)
                self.assertEqual(mean_of_throw(throw), values[quantities[len(past)]])
            mean = use_mean(counts, use, values, rule)
            self.assertEqual(mean, fraction_of(plain_mean(counts, use, values, rule)))
            self.assertNotEqual(mean, worth_at(goal, values))
        return fair

    def test_chosen_uses(self):
        x, y = unit(2, 0), unit(2, 1)
        for use, meant in [
            (multiplied(x, y), True), (multiplied(x, x), False), (multiplied(y, y), False), (x, False), ((), False),
            (plus(multiplied(x, y), plus(y, scaled(x, whole(-1)))), True),
            (plus(multiplied(x, x), plus(multiplied(x, y), scaled(multiplied(y, y), whole(-1)))), False),
            (plus(multiplied(x, x), scaled(plus(multiplied(x, y), scaled(multiplied(y, y), whole(-1))), whole(2))),
             False),
        ]:
            self.assertIs(self.check(1, SQUARE, (2,), use), meant, use)

    def test_a_square_that_the_last_draw_takes_away(self):
        # x ** 2 * (y - z) is 0 in the mean whatever the first draw was.
        x, y, z = unit(3, 0), unit(3, 1), unit(3, 2)
        use = multiplied(multiplied(x, x), plus(y, scaled(z, whole(-1))))
        self.assertIs(self.check(1, (), (3,), use), True)
        # (x - y) * z ** 2: the square is thrown behind both.
        use = multiplied(multiplied(z, z), plus(y, scaled(x, whole(-1))))
        self.assertIs(self.check(1, (), (3,), use), False)
        use = multiplied(multiplied(y, y), plus(x, scaled(z, whole(-1))))
        self.assertIs(self.check(1, (), (3,), use), False)

    def test_which_draw_is_whose(self):
        # Draws 0 and 1 are those of quantity 0, draw 2 that of quantity 1.
        goal = (((1, 1), ONE),)
        self.assertIs(self.check(2, goal, (2, 1), (((0, 1, 1), ONE),)), True)
        self.assertIs(self.check(2, goal, (2, 1), (((1, 0, 1), ONE),)), True)
        self.assertIs(self.check(2, goal, (2, 1), (((1, 1, 0), ONE),)), False)
        self.assertIs(self.check(2, goal, (1, 2), (((1, 1, 0), ONE),)), True)
        self.assertIs(self.check(3, (((1, 0, 1), ONE),), (1, 0, 1), (((1, 1), ONE),)), True)

    def test_drawn_uses(self):
        chance = random.Random(280)
        seen = {True: 0, False: 0}
        for _ in range(200):
            many = chance.randint(1, 3)
            goal = some_polynomial(chance, many, 3, 2)
            counts = tuple([power + chance.randint(0, 1) for power in fewest_draws(many, goal)])
            if sum(counts) > 8:
                continue
            use = use_for(many, goal, counts)
            self.assertIs(is_polynomial(sum(counts), use), True)
            if chance.random() < 0.6 and sum(counts) > 0:
                use = plus(use, some_polynomial(chance, sum(counts), 1, 2))
            fair = self.check(many, goal, counts, use)
            seen[fair] += 1
            for _ in range(3):
                values = some_inputs(chance, many)
                rule = draw_rule(chance, counts, values)
                mean = use_mean(counts, use, values, rule)
                self.assertEqual(mean, fraction_of(plain_mean(counts, use, values, rule)))
                if fair:
                    self.assertEqual(mean, worth_at(goal, values))
        self.assertGreater(min(seen.values()), 30)

    def test_uses_that_become_the_goal(self):
        chance = random.Random(281)
        for _ in range(60):
            # The power itself, or one of it drawn anew, in the place of a product of draws.
            goal = (((chance.randint(2, 3),), ONE),)
            first = chance.randint(0, goal[0][0][0])
            use = (((first, goal[0][0][0] - first), ONE),)
            self.assertIs(self.check(1, goal, (2,), use), max(use[0][0]) <= 1)

    def test_what_is_told_is_the_callers(self):
        use = (((2, 0), ONE),)
        values, rule = unfair_rule(1, SQUARE, (2,), use)
        kept = dict(rule)
        rule.clear()
        self.assertEqual(unfair_rule(1, SQUARE, (2,), use), (values, kept))
        values, rule = unfair_rule(1, SQUARE, (2,), (((1, 0), ONE),))
        rule[()] = None
        self.assertEqual(unfair_rule(1, SQUARE, (2,), (((1, 0), ONE),)), (values, {}))


class Means(unittest.TestCase):
    def test_rules_that_look_back(self):
        rule = {(): ASIDE, (whole(1),): ((whole(-3), HALF), (whole(3), HALF)), (whole(-1),): ((ZERO, ONE),)}
        kept = dict(rule)
        self.assertEqual(use_mean((2,), (((1, 1), ONE),), (ZERO,), rule), ZERO)
        self.assertEqual(use_mean((2,), (((0, 2), ONE),), (ZERO,), rule), (9, 2))
        self.assertEqual(use_mean((2,), (((1, 2), ONE),), (ZERO,), rule), (9, 2))
        self.assertEqual(use_mean((2,), (((0, 2), ONE),), (ZERO,), {}), ZERO)
        self.assertEqual(rule, kept)

    def test_keys_that_cannot_come_mean_nothing(self):
        rule = {(): ASIDE, (whole(7),): ((whole(-3), HALF), (whole(3), HALF))}
        self.assertEqual(use_mean((2,), (((0, 2), ONE),), (ZERO,), rule), ZERO)

    def test_many_pasts(self):
        many = tuple([((at - 3000, 1), (1, 6001)) for at in range(6001)])
        self.assertEqual(use_mean((1, 1), (((1, 1), ONE),), (ZERO, whole(5)), {(): many}), ZERO)
        self.assertEqual(use_mean((1,), (((2,), ONE),), (ZERO,), {(): many}), (3000 * 3001 // 3, 1))
