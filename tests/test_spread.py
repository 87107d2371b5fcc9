import random
import unittest
from fractions import Fraction

from chancegrain.errors import NotMild, NotPlain
from chancegrain.errorthrows import are_error_throws
from chancegrain.kinds import bad_lots
from chancegrain.lots import error_lots
from chancegrain.rules import is_rule, square_of
from chancegrain.spread import (
    greatest_error, greatest_square, is_within, square_parts, widest_throws, worst_errors,
)
from chancegrain.worths import argument_of, exact_result, result_of
from tests.helpers import (
    error_past, error_rule, exchanged, fraction_of, mild_program, number, odd_values, plain_results, roundings_many,
    some_inputs, whole,
)

HALF, ONE, ZERO = (1, 2), (1, 1), (0, 1)
INPUT = ("input", 0)
SQUARE = (1, (INPUT, ("round", 0), ("times", 1, 1)))
TWICE = (1, (INPUT, ("round", 0), ("round", 0), ("times", 1, 2)))
APART = (1, (INPUT, ("round", 0), ("round", 0), ("less", 1, 2)))
NO_ROUNDINGS = (1, (INPUT, ("times", 0, 0)))
# The second rounding looks at what the first one came to.
BEHIND = (1, (INPUT, ("round", 0), ("sum", 1, 0), ("round", 2), ("sum", 1, 3)))
CHOOSING = (1, (INPUT, ("round", 0), ("times", 1, 1), ("choice", 0, 0, 2)))
# Mild as a whole, though squares stand in it.
CANCELLED = (1, SQUARE[1] + (("less", 2, 2), ("sum", 3, 1)))


def some_widths(chance, many):
    return tuple([fraction_of(Fraction(chance.randint(0, 4), chance.randint(1, 3))) for _ in range(many)])


def throw_within(chance, argument, width):
    """A throw with this mean of one, two or three values within the width, also just at it."""
    value, size = number(argument), number(width)
    low = size * chance.choice([Fraction(1), Fraction(1, 2), Fraction(1, 3)])
    high = size * chance.choice([Fraction(1), Fraction(1, 2), Fraction(1, 3)])
    if size == 0 or chance.randrange(4) == 0:
        return ((argument, ONE),)
    shares = {value - low: high / (low + high), value + high: low / (low + high)}
    if chance.randrange(3) == 0:
        shares = {at: share / 2 for at, share in shares.items()}
        shares[value] = Fraction(1, 2)
    return tuple([(fraction_of(at), fraction_of(shares[at])) for at in sorted(shares)])


def rule_within(chance, program, inputs, widths):
    rule, waiting = {}, [()]
    while waiting:
        past = waiting.pop()
        if len(past) < len(widths):
            throw = throw_within(chance, argument_of(program, inputs, past), widths[len(past)])
            rule[past] = throw
            waiting.extend([past + (value,) for value, _ in throw])
    return rule


def plain_square(program, inputs, rule):
    exact = number(exact_result(program, inputs))
    return sum(share * (result - exact) ** 2 for _, share, result in plain_results(program, inputs, rule))


def corners(widths):
    found = [()]
    for width in widths:
        found = [told + (side,) for told in found for side in sorted({-number(width), number(width)})]
    return found


class Squares(unittest.TestCase):
    def test_drawn_programs(self):
        chance = random.Random(260)
        for _ in range(60):
            program = mild_program(chance)
            inputs = some_inputs(chance, 2)
            widths = some_widths(chance, roundings_many(program))
            greatest = number(greatest_square(program, inputs, widths))
            throws = widest_throws(program, widths)
            self.assertIs(are_error_throws(program, throws), True)
            self.assertEqual(plain_square(program, inputs, error_rule(program, inputs, throws)), greatest)
            for _ in range(8):
                rule = rule_within(chance, program, inputs, widths)
                self.assertIs(is_within(program, inputs, widths, rule), True)
                self.assertLessEqual(plain_square(program, inputs, rule), greatest)
                self.assertLessEqual(number(square_of(program, inputs, rule)), greatest)
            parts = square_parts(program, inputs, widths)
            self.assertEqual(list(parts), list(error_lots(program)))
            self.assertEqual(sum(number(part) for part in parts.values()), greatest)

    def test_factors_that_are_0_at_the_inputs(self):
        self.assertEqual(square_parts(TWICE, (ZERO,), (ONE, HALF)), {(0, 1): ZERO, (1, 0): ZERO, (1, 1): (1, 4)})
        self.assertEqual(greatest_square(TWICE, (ZERO,), (ONE, HALF)), (1, 4))
        weighed = (1, TWICE[1] + (("times", 0, 3),))
        self.assertEqual(list(square_parts(weighed, (ZERO,), (ONE, ONE)).values()), [ZERO] * 3)
        self.assertEqual([greatest_square(weighed, (ZERO,), (ONE, ONE)), greatest_error(weighed, (ZERO,), (ONE, ONE))],
                         [ZERO, ZERO])

    def test_widths_of_0_and_uneven_ones(self):
        self.assertEqual(square_parts(TWICE, (whole(3),), (ZERO, HALF)), {(0, 1): (9, 4), (1, 0): ZERO, (1, 1): ZERO})
        self.assertEqual(greatest_square(TWICE, (whole(3),), (ZERO, ZERO)), ZERO)
        self.assertEqual(greatest_square(TWICE, (whole(3),), (whole(2), (1, 3))), fraction_of(36 + 1 + Fraction(4, 9)))
        self.assertEqual(widest_throws(TWICE, (ZERO, (1, 3))), (((ZERO, ONE),), (((-1, 3), HALF), ((1, 3), HALF))))

    def test_without_roundings(self):
        self.assertEqual(square_parts(NO_ROUNDINGS, (ONE,), ()), {})
        self.assertEqual([greatest_square(NO_ROUNDINGS, (ONE,), ()), widest_throws(NO_ROUNDINGS, ())], [ZERO, ()])
        self.assertEqual([greatest_error(NO_ROUNDINGS, (ONE,), ()), worst_errors(NO_ROUNDINGS, (ONE,), ())],
                         [ZERO, ()])
        self.assertIs(is_within(NO_ROUNDINGS, (ONE,), (), {}), True)

    def test_dicts_are_the_callers(self):
        found = square_parts(TWICE, (ONE,), (ONE, ONE))
        kept = dict(found)
        found.clear()
        self.assertEqual(square_parts(TWICE, (ONE,), (ONE, ONE)), kept)


class Errors(unittest.TestCase):
    def size(self, program, inputs, errors):
        past = error_past(program, inputs, [fraction_of(error) for error in errors])
        return abs(number(result_of(program, inputs, past)) - number(exact_result(program, inputs)))

    def test_drawn_programs(self):
        chance = random.Random(261)
        for _ in range(60):
            program = mild_program(chance)
            inputs = some_inputs(chance, 2)
            widths = some_widths(chance, roundings_many(program))
            sizes = [(self.size(program, inputs, errors), errors) for errors in corners(widths)]
            greatest = max(size for size, _ in sizes)
            least = min(errors for size, errors in sizes if size == greatest)
            self.assertEqual(greatest_error(program, inputs, widths), fraction_of(greatest))
            worst = worst_errors(program, inputs, widths)
            self.assertEqual(worst, tuple([fraction_of(error) for error in least]))
            for _ in range(8):
                errors = [number(width) * Fraction(chance.randint(-6, 6), 6) for width in widths]
                self.assertLessEqual(self.size(program, inputs, errors), greatest)

    def test_the_least_one_is_told(self):
        self.assertEqual(worst_errors(APART, (ZERO,), (ONE, ONE)), (whole(-1), ONE))
        self.assertEqual(worst_errors(TWICE, (ZERO,), (ONE, ONE)), (whole(-1), whole(-1)))
        self.assertEqual(worst_errors(TWICE, (whole(-3),), (ONE, ONE)), (whole(-1), whole(-1)))
        self.assertEqual(worst_errors(TWICE, (whole(3),), (ONE, ONE)), (ONE, ONE))
        self.assertEqual(worst_errors(TWICE, (whole(3),), (ZERO, ONE)), (ZERO, whole(-1)))
        self.assertEqual(worst_errors(TWICE, (ZERO,), (ZERO, ZERO)), (ZERO, ZERO))
        # What has no share in the result is told with its width below 0, too.
        unused = (1, (INPUT, ("round", 0), ("round", 0)))
        self.assertEqual(worst_errors(unused, (ZERO,), (whole(5), ONE)), (whole(-5), whole(-1)))


class Within(unittest.TestCase):
    WIDTHS = (HALF, (1, 3))

    def throw(self, mean, by):
        value, size = number(mean), number(by)
        return ((fraction_of(value - size), HALF), (fraction_of(value + size), HALF))

    def test_just_at_the_width_and_just_beyond(self):
        for by, meant in [((1, 2), True), ((1, 4), True), ((500001, 1000000), False), ((2, 1), False)]:
            self.assertIs(is_within(BEHIND, (ONE,), self.WIDTHS, {(): self.throw(ONE, by)}), meant)
        # At pasts that cannot come about too.
        for past in [(ONE,), (whole(9),)]:
            mean = fraction_of(1 + number(past[0]))
            for by, meant in [((1, 3), True), ((333334, 1000000), False), (HALF, False)]:
                self.assertIs(is_within(BEHIND, (ONE,), self.WIDTHS, {past: self.throw(mean, by)}), meant)

    def test_one_side_beyond(self):
        low = ((ZERO, (1, 3)), ((3, 2), (2, 3)))
        self.assertIs(is_rule(BEHIND, (ONE,), {(): low}), True)
        self.assertIs(is_within(BEHIND, (ONE,), self.WIDTHS, {(): low}), False)
        high = ((HALF, (2, 3)), (whole(2), (1, 3)))
        self.assertIs(is_within(BEHIND, (ONE,), self.WIDTHS, {(): high}), False)
        self.assertIs(is_within(BEHIND, (ONE,), (ONE, ZERO), {(): high}), True)

    def test_width_of_0(self):
        sure = ((ONE, ONE),)
        self.assertIs(is_within(BEHIND, (ONE,), (ZERO, ZERO), {(): sure}), True)
        self.assertIs(is_within(BEHIND, (ONE,), (ZERO, ZERO), {(): self.throw(ONE, (1, 1000))}), False)
        self.assertIs(is_within(BEHIND, (ONE,), (ZERO, ZERO), {}), True)

    def test_any_value(self):
        throw = self.throw(ONE, HALF)
        for other in exchanged(throw, odd_values()):
            thing = {(): other}
            meant = is_rule(BEHIND, (ONE,), thing) and all(abs(number(v) - 1) <= Fraction(1, 2) for v, _ in other)
            self.assertIs(is_within(BEHIND, (ONE,), self.WIDTHS, thing), meant, thing)
        for thing in odd_values():
            self.assertIs(is_within(BEHIND, (ONE,), self.WIDTHS, thing), type(thing) is dict and not thing)
        for key in [(ONE, ONE), ((True, 1),), None, 0, "a", (1, 1), (None,)]:
            self.assertIs(is_within(BEHIND, (ONE,), self.WIDTHS, {key: throw}), False, key)

    def test_keys_stay_in_order(self):
        rule = {(ONE,): self.throw(whole(2), (1, 3)), (): self.throw(ONE, HALF)}
        order = list(rule)
        self.assertIs(is_within(BEHIND, (ONE,), self.WIDTHS, rule), True)
        self.assertEqual(list(rule), order)


class Refused(unittest.TestCase):
    def calls(self, widths):
        inputs = (ONE,)
        found = [(told, (inputs, widths)) for told in [square_parts, greatest_square, greatest_error, worst_errors]]
        found.append((widest_throws, (widths,)))
        return found + [(is_within, (inputs, widths, thing)) for thing in [{}, None, [], {(): None}]]

    def test_not_plain_comes_first(self):
        for told, more in self.calls((ONE,)):
            with self.assertRaises(NotPlain) as caught:
                told(CHOOSING, *more)
            self.assertEqual(caught.exception.step, 3)

    def test_not_mild(self):
        for told, more in self.calls((ONE,)):
            with self.assertRaises(NotMild) as caught:
                told(SQUARE, *more)
            self.assertEqual(caught.exception.lot, (2,))
        both = (1, (INPUT, ("round", 0), ("round", 0), ("sum", 1, 2), ("times", 3, 3)))
        self.assertEqual(bad_lots(both, "mild"), [(0, 2), (2, 0)])
        for told, more in self.calls((ONE, ONE)):
            with self.assertRaises(NotMild) as caught:
                told(both, *more)
            self.assertEqual(caught.exception.lot, (0, 2))

    def test_mild_though_squares_stand_in_it(self):
        self.assertEqual(square_parts(CANCELLED, (ONE,), (HALF,)), {(1,): (1, 4)})
