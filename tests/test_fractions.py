import random
import unittest
from fractions import Fraction

from chancegrain import fractions
from chancegrain.errors import NoQuotient
from chancegrain.forms import is_fraction
from tests.helpers import fraction_of, number


def some_fractions():
    found = [(0, 1), (1, 1), (-1, 1), (1, 2), (-1, 2), (1, 3), (-7, 3), (10 ** 59, 7), (-1, 10 ** 59)]
    chance = random.Random(5)
    for _ in range(30):
        found.append(fraction_of(Fraction(chance.randint(-99, 99), chance.randint(1, 30))))
    return found


class Arithmetic(unittest.TestCase):
    def test_reduced(self):
        for num, den in [(6, -4), (-6, 4), (-6, -4), (0, 5), (0, -5), (7, 1), (7, -1), (10 ** 60, 10 ** 59)]:
            found = fractions.reduced(num, den)
            self.assertTrue(is_fraction(found))
            self.assertEqual(number(found), Fraction(num, den))
        self.assertEqual(fractions.reduced(0, -5), (0, 1))

    def test_no_quotient(self):
        for num in [0, 1, -3]:
            self.assertRaises(NoQuotient, fractions.reduced, num, 0)
            self.assertRaises(NoQuotient, fractions.over, fractions.reduced(num, 7), (0, 1))

    def test_of_two(self):
        for one in some_fractions():
            for other in some_fractions():
                first, second = number(one), number(other)
                self.assertEqual(fractions.added(one, other), fraction_of(first + second))
                self.assertEqual(fractions.lessened(one, other), fraction_of(first - second))
                self.assertEqual(fractions.times(one, other), fraction_of(first * second))
                self.assertIs(fractions.is_less(one, other), first < second)
                if second != 0:
                    self.assertEqual(fractions.over(one, other), fraction_of(first / second))

    def test_of_one(self):
        for one in some_fractions():
            self.assertEqual(fractions.size_of(one), fraction_of(abs(number(one))))
            self.assertEqual(fractions.whole_below(one), number(one).__floor__())
            for count in range(7):
                self.assertEqual(fractions.power_of(one, count), fraction_of(number(one) ** count))

    def test_powers(self):
        self.assertEqual(fractions.power_of((0, 1), 0), (1, 1))
        self.assertEqual(fractions.power_of((0, 1), 3), (0, 1))
        self.assertEqual(fractions.power_of((-1, 1), 10 ** 50 + 1), (-1, 1))
        self.assertEqual(fractions.power_of((-2, 3), 101), ((-2) ** 101, 3 ** 101))

    def test_whole_below(self):
        for one, whole in [((-1, 2), -1), ((1, 2), 0), ((-2, 1), -2), ((7, 3), 2), ((-7, 3), -3), ((0, 1), 0)]:
            self.assertEqual(fractions.whole_below(one), whole)


class OfMany(unittest.TestCase):
    def test_total(self):
        self.assertEqual(fractions.total_of([]), (0, 1))
        self.assertEqual(fractions.total_of(()), (0, 1))
        self.assertEqual(fractions.total_of(((1, 2), (1, 3), (1, 6))), (1, 1))
        some = some_fractions()
        self.assertEqual(fractions.total_of(some), fraction_of(sum(number(one) for one in some)))
        self.assertEqual(fractions.total_of(tuple(some)), fractions.total_of(some))

    def test_least_and_greatest(self):
        some = some_fractions()
        for kind in [list, tuple]:
            for count in range(1, len(some)):
                part = kind(some[:count])
                self.assertEqual(number(fractions.least_of(part)), min(number(one) for one in part))
                self.assertEqual(number(fractions.greatest_of(part)), max(number(one) for one in part))

    def test_in_order(self):
        some = some_fractions() * 2
        random.Random(6).shuffle(some)
        kept = list(some)
        rising = [fraction_of(value) for value in sorted({number(one) for one in some})]
        self.assertEqual(fractions.in_order(some), rising)
        self.assertEqual(fractions.in_order(tuple(some)), rising)
        self.assertEqual(some, kept)
        self.assertEqual(fractions.in_order([]), [])
        self.assertEqual(fractions.in_order(()), [])

    def test_lists_stay_as_they_were(self):
        some = [(1, 2), (-1, 3), (1, 2), (0, 1)]
        for told in [fractions.total_of, fractions.least_of, fractions.greatest_of, fractions.in_order]:
            first = told(some)
            self.assertEqual(some, [(1, 2), (-1, 3), (1, 2), (0, 1)])
            self.assertEqual(told(some), first)

    def test_in_order_tells_near_ones_apart(self):
        den = 10 ** 30
        near = [(1, den), (1, den - 1), (-1, den), (-1, den - 1), (0, 1), (1, den + 1)]
        self.assertEqual([number(one) for one in fractions.in_order(near)], sorted(number(one) for one in near))

    def test_in_order_is_the_callers(self):
        some = [(1, 2), (1, 3)]
        fractions.in_order(some).append((9, 1))
        self.assertEqual(fractions.in_order(some), [(1, 3), (1, 2)])
        single = [(1, 2)]
        self.assertIsNot(fractions.in_order(single), single)

    def test_is_ahead(self):
        tuples = [(), ((1, 2),), ((1, 3),), ((1, 2), (-9, 1)), ((1, 3), (9, 1)), ((-1, 2),), ((1, 2), (1, 3), (0, 1))]
        for one in tuples:
            for other in tuples:
                plain = [number(item) for item in one] < [number(item) for item in other]
                self.assertIs(fractions.is_ahead(one, other), plain)
