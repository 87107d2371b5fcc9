import random
import unittest
from fractions import Fraction

from chancegrain.forms import is_polynomial
from chancegrain.polynomials import (
    constant, degree_in, minus, multiplied, part_by, plus, put_in, scaled, unit, worth_at,
)
from tests.helpers import fraction_of, number, plain_worth


def some_polynomial(chance, many):
    found = {}
    for _ in range(chance.randint(0, 6)):
        powers = tuple([chance.randint(0, 3) for _ in range(many)])
        found[powers] = fraction_of(Fraction(chance.randint(-9, 9) or 1, chance.randint(1, 6)))
    return tuple(sorted(found.items()))


def some_values(chance, many):
    return tuple([fraction_of(Fraction(chance.randint(-5, 5), chance.randint(1, 4))) for _ in range(many)])


class Plain(unittest.TestCase):
    def test_units_and_constants(self):
        self.assertEqual(unit(1, 0), (((1,), (1, 1)),))
        self.assertEqual(unit(3, 1), (((0, 1, 0), (1, 1)),))
        self.assertEqual(constant(2, (-1, 2)), (((0, 0), (-1, 2)),))
        self.assertEqual(constant(0, (3, 1)), (((), (3, 1)),))
        self.assertEqual(constant(2, (0, 1)), ())

    def test_zero(self):
        x = unit(2, 0)
        for found in [plus((), ()), minus(x, x), multiplied(x, ()), multiplied((), x), scaled(x, (0, 1)),
                      scaled((), (2, 1)), put_in((), 0, x), put_in(x, 0, ()), part_by((), 0, 0), part_by(x, 0, 2)]:
            self.assertEqual(found, ())
        self.assertEqual(worth_at((), ()), (0, 1))
        self.assertEqual(worth_at((), ((1, 2), (3, 1))), (0, 1))
        self.assertEqual(degree_in((), 1), 0)
        self.assertEqual(plus(x, ()), x)
        self.assertEqual(plus((), x), x)
        self.assertEqual(minus((), x), (((1, 0), (-1, 1)),))

    def test_without_variables(self):
        two, three = constant(0, (2, 1)), constant(0, (3, 1))
        self.assertEqual(multiplied(two, three), constant(0, (6, 1)))
        self.assertEqual(minus(two, two), ())
        self.assertEqual(worth_at(two, ()), (2, 1))

    def test_against_worths(self):
        chance = random.Random(14)
        for many in [1, 2, 3]:
            for _ in range(60):
                one, other = some_polynomial(chance, many), some_polynomial(chance, many)
                values = some_values(chance, many)
                factor = some_values(chance, 1)[0]
                first, second = plain_worth(one, values), plain_worth(other, values)
                self.assertEqual(number(worth_at(one, values)), first)
                for found, meant in [
                    (plus(one, other), first + second), (minus(one, other), first - second),
                    (multiplied(one, other), first * second), (scaled(one, factor), first * number(factor)),
                ]:
                    self.assertIs(is_polynomial(many, found), True)
                    self.assertEqual(plain_worth(found, values), meant)


class Parts(unittest.TestCase):
    def test_put_in(self):
        chance = random.Random(15)
        for many in [1, 2, 3]:
            for _ in range(60):
                one, other = some_polynomial(chance, many), some_polynomial(chance, many)
                values = some_values(chance, many)
                for place in range(many):
                    found = put_in(one, place, other)
                    moved = values[:place] + (fraction_of(plain_worth(other, values)),) + values[place + 1:]
                    self.assertIs(is_polynomial(many, found), True)
                    self.assertEqual(plain_worth(found, values), plain_worth(one, moved))

    def test_put_in_itself(self):
        x, y = unit(2, 0), unit(2, 1)
        self.assertEqual(put_in(y, 1, plus(y, y)), scaled(y, (2, 1)))
        self.assertEqual(put_in(multiplied(y, y), 1, plus(x, y)), multiplied(plus(x, y), plus(x, y)))
        self.assertEqual(put_in(x, 1, plus(x, y)), x)
        self.assertEqual(put_in((((10 ** 30, 1), (1, 2)),), 0, y), (((0, 10 ** 30 + 1), (1, 2)),))

    def test_parts_and_degrees(self):
        chance = random.Random(16)
        for _ in range(60):
            one = some_polynomial(chance, 2)
            for place in [0, 1]:
                powers = [member[0][place] for member in one]
                self.assertEqual(degree_in(one, place), max(powers, default=0))
                total = ()
                for count in range(5):
                    part = part_by(one, place, count)
                    self.assertIs(is_polynomial(2, part), True)
                    self.assertEqual(degree_in(part, place), 0)
                    for _ in range(count):
                        part = multiplied(part, unit(2, place))
                    total = plus(total, part)
                self.assertEqual(total, one)

    def test_worth_at_great_powers(self):
        self.assertEqual(worth_at((((10 ** 40, 0), (1, 2)),), ((-1, 1), (0, 1))), (1, 2))
        self.assertEqual(worth_at((((0, 0), (1, 2)), ((0, 1), (1, 1))), ((5, 1), (0, 1))), (1, 2))
