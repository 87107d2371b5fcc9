import random
import unittest

from chancegrain.worths import argument_of, errors_of, exact_past, exact_result, result_of, values_of
from tests.helpers import fraction_of, number, plain_values, some_inputs, some_program

WORDS = ["sum", "less", "times", "round", "round", "choice"]


def rounding_steps(program):
    return [at for at, step in enumerate(program[1]) if step[0] == "round"]


class Worths(unittest.TestCase):
    def test_against_plain_values(self):
        chance = random.Random(17)
        for _ in range(150):
            program = some_program(chance, 2, 9, WORDS)
            inputs = some_inputs(chance, 2)
            steps = rounding_steps(program)
            past = some_inputs(chance, len(steps))
            meant = plain_values(program, inputs, past)
            found = values_of(program, inputs, past)
            self.assertEqual(found, [fraction_of(value) for value in meant])
            self.assertEqual(result_of(program, inputs, past), found[-1])
            errors = []
            for count, step in enumerate(steps):
                argument = meant[program[1][step][1]]
                self.assertEqual(argument_of(program, inputs, past[:count]), fraction_of(argument))
                errors.append(fraction_of(number(past[count]) - argument))
            self.assertEqual(errors_of(program, inputs, past), tuple(errors))

    def test_exact(self):
        chance = random.Random(18)
        for _ in range(100):
            program = some_program(chance, 2, 9, WORDS)
            inputs = some_inputs(chance, 2)
            meant = [fraction_of(value) for value in plain_values(program, inputs, ())]
            past = exact_past(program, inputs)
            self.assertEqual(past, tuple([meant[step] for step in rounding_steps(program)]))
            self.assertEqual(exact_result(program, inputs), meant[-1])
            self.assertEqual(values_of(program, inputs, past), meant)
            self.assertEqual(errors_of(program, inputs, past), ((0, 1),) * len(past))

    def test_without_roundings(self):
        program = (1, (("input", 0), ("told", (1, 3)), ("times", 0, 1)))
        self.assertEqual(values_of(program, ((1, 2),), ()), [(1, 2), (1, 3), (1, 6)])
        self.assertEqual(result_of(program, ((1, 2),), ()), (1, 6))
        self.assertEqual(errors_of(program, ((1, 2),), ()), ())
        self.assertEqual(exact_past(program, ((1, 2),)), ())
        self.assertEqual(exact_result(program, ((1, 2),)), (1, 6))

    def test_choices(self):
        program = (1, (("input", 0), ("told", (5, 1)), ("told", (7, 1)), ("choice", 0, 1, 2)))
        for value, meant in [((0, 1), 5), ((1, 9), 5), ((3, 1), 5), ((-1, 9), 7), ((-3, 1), 7)]:
            self.assertEqual(exact_result(program, (value,)), (meant, 1))
            self.assertEqual(result_of(program, (value,), ()), (meant, 1))
            self.assertEqual(values_of(program, (value,), ())[3], (meant, 1))

    def test_choice_by_what_was_rounded(self):
        program = (1, (("input", 0), ("round", 0), ("told", (7, 1)), ("choice", 1, 0, 2), ("round", 3)))
        self.assertEqual(argument_of(program, ((1, 2),), ((0, 1),)), (1, 2))
        self.assertEqual(argument_of(program, ((1, 2),), ((-1, 1),)), (7, 1))
        self.assertEqual(errors_of(program, ((1, 2),), ((-1, 1), (5, 1))), ((-3, 2), (-2, 1)))

    def test_all_steps_are_worked_out(self):
        program = (1, (("input", 0), ("round", 0), ("told", (2, 1)), ("times", 1, 2), ("input", 0)))
        self.assertEqual(values_of(program, ((3, 1),), ((4, 1),)), [(3, 1), (4, 1), (2, 1), (8, 1), (3, 1)])

    def test_steps_that_are_not_needed_do_not_hinder(self):
        steps = [("input", 0), ("round", 0)] + [("times", at, at) for at in range(1, 36)] + [("round", 1)]
        program = (1, tuple(steps))
        self.assertEqual(exact_result(program, ((3, 7),)), (3, 7))

    def test_lists_are_the_callers(self):
        program = (1, (("input", 0), ("round", 0)))
        found = values_of(program, ((1, 2),), ((1, 1),))
        found[0] = None
        found.append(1)
        self.assertEqual(values_of(program, ((1, 2),), ((1, 1),)), [(1, 2), (1, 1)])
