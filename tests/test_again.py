import random
import unittest
from fractions import Fraction
from math import ceil, floor

from chancegrain.again import again_throw, is_once, once_parting
from chancegrain.forms import is_throw
from chancegrain.neighbours import neighbour_throw
from chancegrain.rules import mean_of_throw
from tests.helpers import fraction_of, number, whole

HALF, THIRD, ONE, ZERO = (1, 2), (1, 3), (1, 1), (0, 1)


def plain_again(value, grains):
    """The chances of what a number becomes, by an independent reckoning."""
    if not grains:
        return {value: Fraction(1)}
    low, high = grains[0] * floor(value / grains[0]), grains[0] * ceil(value / grains[0])
    share = (value - low) / (high - low) if low < high else Fraction(0)
    found = {}
    for part, by in [(low, 1 - share), (high, share)]:
        if by:
            for end, chance in plain_again(part, grains[1:]).items():
                found[end] = found.get(end, 0) + by * chance
    return found


def drawn_grains(chance, many):
    return tuple([fraction_of(Fraction(chance.randint(1, 6), chance.randint(1, 4))) for _ in range(many)])


class Throws(unittest.TestCase):
    def test_drawn_numbers(self):
        chance = random.Random(380)
        for _ in range(300):
            value = Fraction(chance.randint(-30, 30), chance.randint(1, 7))
            grains = drawn_grains(chance, chance.randint(1, 4))
            found = again_throw(fraction_of(value), grains)
            shares = plain_again(value, [number(grain) for grain in grains])
            self.assertEqual(found, tuple([(fraction_of(at), fraction_of(shares[at])) for at in sorted(shares)]))
            self.assertIs(is_throw(found), True)
            self.assertEqual(mean_of_throw(found), fraction_of(value))

    def test_one_grain(self):
        for value in [ZERO, HALF, (-7, 3), whole(5)]:
            for grain in [ONE, THIRD, (5, 2)]:
                self.assertEqual(again_throw(value, (grain,)), neighbour_throw(value, grain))
                self.assertIs(is_once((grain,)), True)
                self.assertIsNone(once_parting((grain,)))

    def test_values_that_meet_again(self):
        self.assertEqual(again_throw(HALF, (THIRD, ONE)), ((ZERO, HALF), (ONE, HALF)))
        self.assertEqual(again_throw(THIRD, (HALF, THIRD)), ((ZERO, THIRD), (THIRD, THIRD), ((2, 3), THIRD)))
        self.assertEqual(again_throw(ONE, (whole(2), ONE)), ((ZERO, HALF), (whole(2), HALF)))


class Once(unittest.TestCase):
    def test_kinds_of_grains(self):
        for grains, meant in [
            ((ONE, ONE), True), ((THIRD, ONE), True), ((ONE, THIRD), False), ((HALF, THIRD, ONE), True),
            ((HALF, THIRD), False), ((HALF, (2, 3), ONE), False), (((2, 3), HALF, ONE), False),
            ((HALF, (2, 3), whole(2)), True),
            ((whole(2), ONE, whole(2)), True), ((whole(2), whole(2), ONE), False), ((THIRD, whole(2), (3, 2)), False),
            (((3, 7), (6, 7), (2, 7), (18, 7)), True), (((3, 7), (6, 7), (4, 7), (18, 7)), False),
        ]:
            self.assertIs(is_once(grains), meant, grains)
            self.assertEqual(once_parting(grains) is None, meant, grains)

    def check(self, chance, grains):
        parting = once_parting(grains)
        self.assertEqual(parting is None, is_once(grains))
        if parting is not None:
            self.assertNotEqual(again_throw(parting, grains), neighbour_throw(parting, grains[-1]), grains)
            return False
        for _ in range(10):
            value = fraction_of(Fraction(chance.randint(-60, 60), chance.randint(1, 12)))
            self.assertEqual(again_throw(value, grains), neighbour_throw(value, grains[-1]), (value, grains))
        return True

    def test_drawn_grains(self):
        chance = random.Random(381)
        seen = [0, 0]
        for _ in range(400):
            grains = drawn_grains(chance, chance.randint(1, 4))
            if chance.random() < 0.4:
                last = Fraction(chance.randint(1, 9), chance.randint(1, 4))
                grains = tuple([fraction_of(last / chance.randint(1, 5)) for _ in grains]) + (fraction_of(last),)
            seen[self.check(chance, grains)] += 1
        self.assertGreater(min(seen), 100)

    def test_a_last_grain_that_is_a_multiple_of_all_but_one(self):
        chance = random.Random(382)
        for at in range(3):
            grains = [HALF, THIRD, ONE]
            grains[at] = (4, 3)
            self.assertIs(self.check(chance, tuple(grains) + (whole(2),)), False)
        self.assertIs(self.check(chance, (HALF, THIRD, ONE, whole(2))), True)
