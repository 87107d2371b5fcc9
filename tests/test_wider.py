import random
import unittest
from fractions import Fraction

from chancegrain.errors import NotMild, NotPlain
from chancegrain.lots import lots_at
from chancegrain.spread import greatest_square
from chancegrain.wider import is_never_wider, parting_widths, wider_lots
from tests.helpers import fraction_of, mild_program, number, roundings_many, some_inputs, whole

HALF, ONE, ZERO = (1, 2), (1, 1), (0, 1)
INPUT = ("input", 0)
TWO = (INPUT, ("round", 0), ("round", 0))
TWICE = (1, TWO + (("times", 1, 2),))
ADDED = (1, TWO + (("sum", 1, 2),))
FIRST = (1, TWO + (("sum", 1, 0),))
SECOND = (1, TWO + (("sum", 2, 0),))
# The product of both, times the input less 1.
VANISHING = (1, TWO + (("times", 1, 2), ("told", ONE), ("less", 0, 4), ("times", 3, 5)))
NONE = (1, (INPUT,))
MILD_NOT = (1, TWO + (("times", 2, 2),))
CHOOSING = (1, TWO + (("times", 2, 2), ("choice", 0, 1, 3)))


def squared(program, inputs):
    return {lot: number(worth) ** 2 for lot, worth in lots_at(program, inputs).items()}


class Lots(unittest.TestCase):
    def test_beside_itself(self):
        for program in [TWICE, ADDED, VANISHING, NONE]:
            for value in [ZERO, HALF, whole(-3)]:
                self.assertEqual(wider_lots(program, program, (value,)), [])
                self.assertIs(is_never_wider(program, program, (value,)), True)
                self.assertIsNone(parting_widths(program, program, (value,)))

    def test_lots_of_one_alone(self):
        self.assertEqual(wider_lots(FIRST, SECOND, (ZERO,)), [(1, 0)])
        self.assertEqual(wider_lots(SECOND, FIRST, (ZERO,)), [(0, 1)])
        self.assertEqual(wider_lots(FIRST, ADDED, (ZERO,)), [])
        self.assertEqual(wider_lots(ADDED, FIRST, (ZERO,)), [(0, 1)])
        self.assertEqual(wider_lots(TWICE, ADDED, (ONE,)), [(1, 1)])
        self.assertEqual(wider_lots(TWICE, ADDED, ((3, 2),)), [(0, 1), (1, 0), (1, 1)])

    def test_factors_that_vanish(self):
        self.assertEqual(wider_lots(VANISHING, TWICE, (ONE,)), [])
        self.assertEqual(wider_lots(TWICE, VANISHING, (ONE,)), [(0, 1), (1, 0), (1, 1)])
        self.assertEqual(wider_lots(TWICE, VANISHING, (ZERO,)), [])
        self.assertEqual(wider_lots(VANISHING, TWICE, (whole(-1),)), [(0, 1), (1, 0), (1, 1)])
        self.assertIs(is_never_wider(VANISHING, FIRST, (ONE,)), True)

    def test_signs_do_not_matter(self):
        turned = (1, TWO + (("less", 0, 1),))
        self.assertEqual([wider_lots(turned, FIRST, (ZERO,)), wider_lots(FIRST, turned, (ZERO,))], [[], []])

    def test_lists_are_the_callers(self):
        wider_lots(FIRST, SECOND, (ZERO,)).append(None)
        self.assertEqual(wider_lots(FIRST, SECOND, (ZERO,)), [(1, 0)])


class Widths(unittest.TestCase):
    def check(self, one, other, inputs):
        lots = wider_lots(one, other, inputs)
        mine, others = squared(one, inputs), squared(other, inputs)
        self.assertEqual(lots, [lot for lot in sorted(mine) if mine[lot] > others.get(lot, 0)])
        widths = parting_widths(one, other, inputs)
        self.assertIs(widths is None, lots == [])
        self.assertIs(is_never_wider(one, other, inputs), lots == [])
        if widths is not None:
            self.assertEqual(len(widths), roundings_many(one))
            self.assertTrue(all(number(width) >= 0 for width in widths))
            self.assertGreater(number(greatest_square(one, inputs, widths)),
                               number(greatest_square(other, inputs, widths)))
        return lots == []

    def test_widths_of_0(self):
        self.assertEqual(parting_widths(FIRST, SECOND, (ZERO,))[1], ZERO)
        self.assertEqual(parting_widths(SECOND, FIRST, (ZERO,))[0], ZERO)
        self.check(FIRST, SECOND, (ZERO,))

    def test_small_widths_do_not_part(self):
        # The product of both errors must outdo a thousand times each of them.
        steps = TWO + (("less", 1, 0), ("less", 2, 0), ("told", whole(1000)), ("sum", 3, 4), ("times", 6, 5))
        far = (1, steps)
        product = (1, TWO + (("less", 1, 0), ("less", 2, 0), ("times", 3, 4)))
        self.assertEqual(wider_lots(product, far, (HALF,)), [(1, 1)])
        self.check(product, far, (HALF,))

    def test_drawn_programs(self):
        chance = random.Random(270)
        programs = {}
        for _ in range(60):
            program = mild_program(chance)
            programs.setdefault(roundings_many(program), []).append(program)
        seen = {True: 0, False: 0}
        for _ in range(120):
            alike = chance.choice([found for found in programs.values() if len(found) > 1])
            one, other = chance.choice(alike), chance.choice(alike)
            inputs = some_inputs(chance, 2)
            never = self.check(one, other, inputs)
            seen[never] += 1
            if never:
                for _ in range(5):
                    widths = [Fraction(chance.randint(0, 9), chance.randint(1, 4)) for _ in range(roundings_many(one))]
                    widths = tuple([fraction_of(width) for width in widths])
                    self.assertLessEqual(number(greatest_square(one, inputs, widths)),
                                         number(greatest_square(other, inputs, widths)))
        self.assertGreater(min(seen.values()), 15)


class Refused(unittest.TestCase):
    def caught(self, error, one, other):
        found = []
        for told in [is_never_wider, wider_lots, parting_widths]:
            with self.assertRaises(error) as caught:
                told(one, other, (ONE,))
            found.append(caught.exception)
        return found

    def test_not_plain(self):
        for one, other in [(CHOOSING, TWICE), (TWICE, CHOOSING), (CHOOSING, MILD_NOT), (CHOOSING, CHOOSING)]:
            self.assertEqual([error.step for error in self.caught(NotPlain, one, other)], [4] * 3)

    def test_not_mild(self):
        other_not = (1, TWO + (("times", 1, 1),))
        for one, other, lot in [
            (MILD_NOT, TWICE, (0, 2)), (TWICE, MILD_NOT, (0, 2)), (other_not, MILD_NOT, (2, 0)),
            (MILD_NOT, other_not, (0, 2)), (MILD_NOT, CHOOSING, (0, 2)),
        ]:
            self.assertEqual([error.lot for error in self.caught(NotMild, one, other)], [lot] * 3)
