import unittest
from fractions import Fraction

from chancegrain.errors import Wrong
from chancegrain.forms import (
    are_inputs, is_fraction, is_integer, is_past, is_polynomial, is_program, is_throw,
)
from tests.helpers import exchanged, nested, number, odd_values

STEPS = (
    ("input", 0), ("told", (-1, 2)), ("sum", 0, 1), ("less", 2, 0), ("times", 3, 3), ("round", 4),
    ("choice", 0, 5, 1),
)
PROGRAM = (1, STEPS)


def plain_int(thing):
    return type(thing) is int


def plain_fraction(thing):
    if type(thing) is not tuple or len(thing) != 2 or not all(plain_int(item) for item in thing):
        return False
    return thing[1] > 0 and thing == Fraction(*thing).as_integer_ratio()


class Integers(unittest.TestCase):
    def test_integers(self):
        for thing in [0, 1, -1, 10 ** 40 - 1, -10 ** 40]:
            self.assertIs(is_integer(thing), True)

    def test_others(self):
        for thing in [True, False, None, "1", "", (1,), [1], {}, (), Wrong(1)]:
            self.assertIs(is_integer(thing), False)


class FractionForm(unittest.TestCase):
    def test_fractions(self):
        for thing in [(0, 1), (1, 1), (-1, 2), (3, 2), (10 ** 40 - 1, 10 ** 39)]:
            self.assertIs(is_fraction(thing), True)

    def test_others(self):
        wrong = [
            (2, 4), (0, 2), (0, 0), (1, 0), (1, -2), (0, -1), (True, 1), (1, True), (False, 1), [1, 2], (1,),
            (1, 2, 3), ("1", 2), (1, "2"), (1, None), (None, 1), ((1, 1), 1), "ab", "12", {1: 2, 2: 3}, (), 5,
        ]
        for thing in wrong + [None, Wrong(0), (Wrong(0), 1), (1, Wrong(0)), nested(19)]:
            self.assertIs(is_fraction(thing), False, thing)

    def test_any_value(self):
        for thing in exchanged((1, 2), odd_values()):
            self.assertIs(is_fraction(thing), plain_fraction(thing), thing)


class PolynomialForm(unittest.TestCase):
    def test_polynomials(self):
        self.assertIs(is_polynomial(0, ()), True)
        self.assertIs(is_polynomial(3, ()), True)
        self.assertIs(is_polynomial(0, (((), (1, 2)),)), True)
        self.assertIs(is_polynomial(1, (((0,), (1, 2)), ((10 ** 39,), (-1, 1)))), True)
        self.assertIs(is_polynomial(2, (((0, 2), (1, 1)), ((1, 1), (2, 1)), ((2, 0), (1, 1)))), True)

    def test_edges(self):
        wrong = [
            (((0,), (0, 1)),), (((0,), (2, 4)),), (((1,), (1, 1)), ((0,), (1, 1))),
            (((1,), (1, 1)), ((1,), (1, 1))), (((1,), (1, 1)), ((1,), (2, 1))), (((-1,), (1, 1)),),
            (((True,), (1, 1)),), (((1,), (True, 1)),), (((), (1, 1)),), (((0, 0), (1, 1)),),
            [((0,), (1, 1))], (([0], (1, 1)),), (((0,), [1, 1]),), ([(0,), (1, 1)],), (((0,), (1, 1), 1),),
            (((0,),),), ((0, (1, 1)),), (((0,), 1),), (((None,), (1, 1)),), (1,), (None,), ("ab",),
        ]
        for thing in wrong:
            self.assertIs(is_polynomial(1, thing), False, thing)
        self.assertIs(is_polynomial(0, (((), (1, 2)), ((), (1, 2)))), False)
        self.assertIs(is_polynomial(2, (((1, 0), (1, 1)), ((0, 1), (1, 1)))), False)

    def test_any_value(self):
        right = (((0, 2), (1, 1)), ((1, 1), (2, 1)))
        for thing in exchanged(right, odd_values()):
            self.assertIs(is_polynomial(2, thing), self.plainly(2, thing), thing)

    def plainly(self, many, thing):
        if type(thing) is not tuple:
            return False
        for member in thing:
            if type(member) is not tuple or len(member) != 2 or not plain_fraction(member[1]):
                return False
            powers = member[0]
            if type(powers) is not tuple or len(powers) != many or member[1] == (0, 1):
                return False
            if not all(plain_int(power) and power >= 0 for power in powers):
                return False
        return [member[0] for member in thing] == sorted({member[0] for member in thing})


class ProgramForm(unittest.TestCase):
    def test_programs(self):
        self.assertIs(is_program(PROGRAM), True)
        for count in range(1, len(STEPS)):
            self.assertIs(is_program((1, STEPS[:count])), True)
        self.assertIs(is_program((0, (("told", (0, 1)),))), True)
        self.assertIs(is_program((10 ** 39, (("input", 10 ** 38),) * 40)), True)

    def test_edges_of_the_whole(self):
        wrong = [
            (1, ()), (1,), (1, STEPS, ()), [1, STEPS], (1, list(STEPS)), (-1, (("told", (1, 1)),)),
            (True, STEPS), (None, STEPS), ("1", STEPS), (1, {}), (1, "round"), (1, None), (0, STEPS), STEPS,
            (False, (("told", (1, 1)),)),
        ]
        for thing in wrong:
            self.assertIs(is_program(thing), False, thing)

    def test_edges_of_steps(self):
        wrong = [
            ("input", 1), ("input", -1), ("input", True), ("input", False), ("input",), ("input", 0, 0),
            ["input", 0], ("input", (0, 1)), ("told", (2, 4)), ("told", 1), ("told", (1, 1), (1, 1)), ("told",),
            ("told", [1, 2]), ("told", (True, 1)), ("sum", 0), ("sum", 0, 2), ("sum", 2, 0), ("sum", 3, 0),
            ("sum", -1, 0), ("sum", 0, 1, 1), ("sum", True, 0), ("less", 0, False), ("times", 0, "1"),
            ("times", 0, None), ("times",), ("round", 2), ("round", 0, 0), ("round",), ("round", True),
            ("round", 5), ("choice", 0, 1), ("choice", 0, 1, 2), ("choice", 2, 1, 0), ("choice", 0, True, 1),
            ("choice", 0, 0, 0, 0), ("Sum", 0, 1), ("over", 0, 1), ("", 0, 1), (), "round", None, 0,
            (None, 0), (True, 0), (0, 0), ([], 0), ({}, 0), (("round",), 0), (Wrong(0), 0), [("round", 0)],
        ]
        for step in wrong:
            self.assertIs(is_program((1, STEPS[:2] + (step,))), False, step)
        for step in [("sum", 0, 0), ("times", 1, 1), ("round", 1), ("choice", 1, 1, 1), ("input", 0)]:
            self.assertIs(is_program((1, STEPS[:2] + (step,))), True, step)

    def test_any_value(self):
        right = (1, (("input", 0), ("told", (1, 2)), ("choice", 0, 1, 1)))
        for thing in exchanged(right, odd_values()):
            self.assertIn(is_program(thing), (True, False))
            if thing != right and is_program(thing):
                self.assertIs(self.plainly(thing), True, thing)

    def plainly(self, thing):
        many, steps = thing
        counts = {"input": 1, "told": 1, "sum": 2, "less": 2, "times": 2, "round": 1, "choice": 3}
        for at, step in enumerate(steps):
            if type(step) is not tuple or len(step) != counts[step[0]] + 1:
                return False
            if step[0] == "told":
                if not plain_fraction(step[1]):
                    return False
            elif not all(plain_int(k) and 0 <= k < (many if step[0] == "input" else at) for k in step[1:]):
                return False
        return type(many) is int and len(steps) > 0


class InputsAndPasts(unittest.TestCase):
    def test_inputs(self):
        two = (2, (("input", 1),))
        none = (0, (("told", (1, 1)),))
        self.assertIs(are_inputs(two, ((1, 2), (0, 1))), True)
        self.assertIs(are_inputs(none, ()), True)
        wrong = [
            (), ((1, 2),), ((1, 2),) * 3, [(1, 2), (0, 1)], ((1, 2), (2, 2)), ((1, 2), 1), ((1, 2), (True, 1)),
            ((1, 2), [0, 1]), ((1, 2), None), None, "ab", {},
        ]
        for thing in wrong:
            self.assertIs(are_inputs(two, thing), False, thing)
        for thing in [None, [], {}, "", ((1, 1),), False]:
            self.assertIs(are_inputs(none, thing), False, thing)

    def test_pasts(self):
        two = (1, (("input", 0), ("round", 0), ("round", 1)))
        for thing in [(), ((1, 2),), ((1, 2), (-3, 1))]:
            self.assertIs(is_past(two, thing), True)
        wrong = [
            ((1, 2),) * 3, [], [(1, 2)], ((2, 4),), ((1, 2), 1), ((True, 1),), (1,), None, "", {}, (1, 2),
            ((1, 2), ()), ([1, 2],), (Wrong(0),), False,
        ]
        for thing in wrong:
            self.assertIs(is_past(two, thing), False, thing)
        none = (1, (("input", 0),))
        self.assertIs(is_past(none, ()), True)
        self.assertIs(is_past(none, ((1, 1),)), False)

    def test_any_value(self):
        program = (2, (("input", 0), ("round", 0), ("round", 1)))
        for thing in exchanged(((1, 2), (0, 1)), odd_values()):
            fractions = type(thing) is tuple and all(plain_fraction(part) for part in thing)
            self.assertIs(are_inputs(program, thing), fractions and len(thing) == 2, thing)
            self.assertIs(is_past(program, thing), fractions and len(thing) <= 2, thing)


class ThrowForm(unittest.TestCase):
    def test_throws(self):
        rights = [
            (((5, 1), (1, 1)),), (((1, 2), (1, 3)), ((2, 3), (2, 3))),
            (((-1, 1), (1, 4)), ((0, 1), (1, 4)), ((1, 3), (1, 2))),
            tuple([((k, 1), (1, 300)) for k in range(300)]),
        ]
        for thing in rights:
            self.assertIs(is_throw(thing), True, thing)

    def test_edges(self):
        half = (1, 2)
        wrong = [
            (), [((5, 1), (1, 1))], (((5, 1), (1, 2)),), (((5, 1), (2, 1)),), (((1, 1), half), ((1, 1), half)),
            (((2, 1), half), ((1, 1), half)), (((1, 2), half), ((1, 3), half)),
            (((0, 1), (1, 1)), ((1, 1), (0, 1))), (((0, 1), (2, 1)), ((1, 1), (-1, 1))),
            (((0, 1), (-1, 1)), ((1, 1), (2, 1))), (((0, 1), half), ((1, 1), (2, 4))),
            (((0, 1), half), ((2, 2), half)), (((0, 1), (True, 1)),), (((True, 1), (1, 1)),),
            (((0, 1), half), [(1, 1), half]), (((0, 1), half), ((1, 1), half, half)), (((0, 1),),),
            ((0, 1), (1, 1)), ((0, (1, 1)),), (((0, 1), 1),), (None,), ("ab",), None, "", {}, False,
        ]
        for thing in wrong:
            self.assertIs(is_throw(thing), False, thing)

    def test_any_value(self):
        right = (((-1, 2), (1, 2)), ((0, 1), (1, 4)), ((1, 3), (1, 4)))
        for thing in exchanged(right, odd_values()):
            self.assertIs(is_throw(thing), self.plainly(thing), thing)

    def plainly(self, thing):
        if type(thing) is not tuple or not thing:
            return False
        for item in thing:
            if type(item) is not tuple or len(item) != 2 or not all(plain_fraction(part) for part in item):
                return False
        values = [number(value) for value, _ in thing]
        chances = [number(chance) for _, chance in thing]
        return values == sorted(set(values)) and min(chances) > 0 and sum(chances) == 1


class Unchanged(unittest.TestCase):
    def test_what_is_handed_in_stays(self):
        program = (1, (("input", 0), ("round", 0)))
        for thing in [[1, [2]], {"a": [1]}, {(): []}, ([1], {}), (1, [("input", 0)])]:
            shown = repr(thing)
            for told in [is_integer, is_fraction, is_program, is_throw]:
                self.assertIs(told(thing), False)
            for told in [are_inputs, is_past]:
                self.assertIs(told(program, thing), False)
            self.assertIs(is_polynomial(1, thing), False)
            self.assertEqual(repr(thing), shown)
