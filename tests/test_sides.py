import random
import unittest
from itertools import combinations

from chancegrain.errors import TooMany
from chancegrain.grainmeans import greatest_mean, least_mean
from chancegrain.sides import mean_span, safe_lots, sides_of
from chancegrain.worths import exact_result
from tests.grainhelpers import SINGLE, choosing, plain_best, plain_next, some_case
from tests.helpers import fraction_of, number, plain_values, roundings_many, whole

HALF, ONE, ZERO = (1, 2), (1, 1), (0, 1)
INPUT = ("input", 0)
NONE = (1, (INPUT, ("times", 0, 0)))
WORDS = ["sum", "less", "times", "times", "round", "round", "choice"]
# 0 as long as both roundings are of one kind, exact or by grains, in the ways told below.
PAIR = (1, (INPUT, ("round", 0), ("round", 0), ("less", 1, 2), ("times", 3, 3)))


def lots_of(count):
    return [lot for size in range(count + 1) for lot in combinations(range(count), size)]


class Sides(unittest.TestCase):
    def test_each_side(self):
        grains = ((ONE, ONE),)
        turned = (1, SINGLE[1] + (("told", ZERO), ("less", 3, 2)))
        cube = (1, SINGLE[1] + (("times", 2, 1),))
        same = (1, (INPUT, ("round", 0)))
        self.assertEqual(sides_of(SINGLE, (HALF,), grains), (1, 1))
        self.assertEqual(sides_of(SINGLE, (ONE,), grains), (0, 1))
        self.assertEqual(sides_of(turned, (HALF,), grains), (-1, -1))
        self.assertEqual(sides_of(turned, (ONE,), grains), (-1, 0))
        self.assertEqual(sides_of(cube, (ZERO,), ((ONE, whole(2)),)), (-1, 1))
        self.assertEqual(sides_of(same, (HALF,), grains), (0, 0))
        self.assertEqual(sides_of(NONE, (HALF,), ()), (0, 0))
        # Squared from 1 on: at 1/2 the exact result is 0.
        self.assertEqual(sides_of(choosing(ONE), (HALF,), grains), (1, 1))
        self.assertEqual(sides_of(choosing((1001, 1000)), (HALF,), grains), (0, 0))
        self.assertEqual(sides_of(choosing(ONE), (ONE,), grains), (0, 1))
        self.assertEqual(sides_of(choosing(whole(2)), (whole(2),), grains), (0, 1))
        self.assertEqual(sides_of(choosing(whole(-9)), ((1, 3),), grains), (1, 1))

    def test_drawn_programs(self):
        chance = random.Random(360)
        seen = {}
        for _ in range(150):
            program, inputs, grains = some_case(chance, words=WORDS)
            exact = number(exact_result(program, inputs))
            least, greatest = plain_best(program, inputs, grains, min), plain_best(program, inputs, grains, max)
            meant = tuple([(one > exact) - (one < exact) for one in (least, greatest)])
            found = sides_of(program, inputs, grains)
            self.assertEqual(found, meant)
            self.assertTrue(all(type(side) is int for side in found))
            seen[found] = True
        self.assertLessEqual({(0, 0), (-1, 0), (0, 1), (1, 1), (-1, -1)}, set(seen))


class Spans(unittest.TestCase):
    def check(self, program, inputs, grains):
        exact = exact_result(program, inputs)
        safe = []
        for lot in lots_of(len(grains)):
            least, greatest = [plain_best(program, inputs, grains, pick, lot=lot) for pick in (min, max)]
            found = mean_span(program, inputs, grains, lot)
            self.assertEqual(found, (fraction_of(least), fraction_of(greatest)), (program, lot))
            if found == (exact, exact):
                safe.append(lot)
        found = safe_lots(program, inputs, grains)
        self.assertEqual(found, sorted(lot for lot in safe if not any(set(lot) < set(other) for other in safe)))
        return found, safe

    def test_drawn_programs(self):
        chance = random.Random(361)
        seen = 0
        while seen < 60:
            program, inputs, grains = some_case(chance, words=WORDS)
            found, _ = self.check(program, inputs, grains)
            everything = tuple(range(len(grains)))
            self.assertEqual(mean_span(program, inputs, grains, everything),
                             (least_mean(program, inputs, grains), greatest_mean(program, inputs, grains)))
            exact = exact_result(program, inputs)
            self.assertEqual(mean_span(program, inputs, grains, ()), (exact, exact))
            seen += found != [everything]

    def test_the_lot_of_none(self):
        self.assertEqual(mean_span(SINGLE, ((1, 3),), ((ONE, ONE),), ()), ((1, 9), (1, 9)))
        self.assertEqual(safe_lots(SINGLE, ((1, 3),), ((ONE, ONE),)), [()])
        self.assertEqual([mean_span(NONE, (HALF,), (), ()), safe_lots(NONE, (HALF,), ())], [((1, 4), (1, 4)), [()]])
        self.assertEqual(safe_lots((1, (INPUT, ("round", 0))), (HALF,), ((ONE, ONE),)), [(0,)])

    def test_several_lots_that_lie_in_no_other(self):
        self.assertEqual(self.check(PAIR, (ONE,), ((ONE, ONE),) * 2)[0], [()])
        product = (1, (INPUT, ("round", 0), ("round", 1), ("round", 1), ("times", 2, 3)))
        self.assertEqual(self.check(product, (HALF,), ((ONE, ONE),) * 3)[0], [(1, 2)])
        square = (1, (INPUT, ("round", 0), ("round", 0), ("sum", 1, 2), ("round", 3), ("times", 4, 3)))
        self.assertEqual(self.check(square, (HALF,), ((ONE, ONE),) * 3)[0], [(2,)])
        apart = (1, (INPUT, ("round", 0), ("round", 0), ("round", 0), ("times", 1, 1), ("less", 2, 3), ("times", 4, 5),
                     ("told", ONE), ("less", 7, 1), ("times", 8, 6)))
        self.check(apart, ((1, 3),), ((ONE, ONE),) * 3)

    def test_a_safe_lot_with_an_unsafe_lot_within(self):
        # The square of the second error, but 0 if the first rounding comes to a whole number.
        steps = (
            INPUT, ("round", 0), ("round", 0), ("less", 1, 0), ("times", 3, 3), ("told", (1, 4)), ("less", 4, 5),
            ("less", 2, 0), ("times", 7, 7), ("told", ZERO), ("choice", 6, 9, 8),
        )
        found, safe = self.check((1, steps), (HALF,), ((ONE, ONE),) * 2)
        self.assertEqual([found, safe], [[(0, 1)], [(), (0,), (0, 1)]])

    def test_a_rounding_exactly_at_what_is_no_multiple(self):
        # Not in the lot: it comes to its argument, whatever its grain.
        program = (1, (INPUT, ("round", 0), ("round", 1), ("times", 2, 2)))
        grains = ((ONE, ONE), ((1, 3), (1, 3)))
        self.assertEqual(plain_next(program, (HALF,), grains, (HALF,), (1,)), [number((1, 3)), number((2, 3))])
        self.check(program, (HALF,), grains)
        self.assertEqual(mean_span(program, (HALF,), grains, (1,)), ((5, 18), (5, 18)))
        self.assertEqual(mean_span(program, (HALF,), grains, (0,)), (HALF, HALF))

    def test_too_many_whatever_the_lot(self):
        grains = ((ONE, ONE), (ONE, whole(10 ** 40)))
        for lot in [(), (0,), (1,), (0, 1)]:
            with self.assertRaises(TooMany) as caught:
                mean_span(PAIR, (HALF,), grains, lot)
            self.assertEqual(caught.exception.most, 20000)

    def test_five_roundings(self):
        steps = (INPUT,) + tuple([("round", at) for at in range(5)]) + (("times", 5, 3),)
        found = safe_lots((1, steps), (HALF,), ((ONE, ONE),) * 5)
        # The last of the two sides may be rounded, and what is rounded already stays as it is.
        self.assertEqual(found, [(3, 4)])
        self.assertEqual(plain_values((1, steps), (HALF,), ())[-1], number((1, 4)))
        self.assertEqual(roundings_many((1, steps)), 5)

    def test_lists_are_the_callers(self):
        safe_lots(PAIR, (HALF,), ((ONE, ONE),) * 2).append(None)
        self.assertNotIn(None, safe_lots(PAIR, (HALF,), ((ONE, ONE),) * 2))
