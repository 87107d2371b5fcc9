import unittest

from chancegrain.forms import is_program
from chancegrain.programs import beside, choices_of, hangs_on, roundings_of

MIXED = (2, (
    ("input", 1), ("round", 0), ("told", (1, 2)), ("choice", 2, 1, 0), ("round", 3), ("input", 0), ("round", 5),
    ("choice", 6, 2, 2), ("times", 4, 4), ("less", 5, 7), ("sum", 8, 9),
))
NONE = (2, (("input", 0), ("told", (3, 1))))


class Indexes(unittest.TestCase):
    def test_roundings(self):
        self.assertEqual(roundings_of(MIXED), (1, 4, 6))
        self.assertEqual(roundings_of(NONE), ())

    def test_choices(self):
        self.assertEqual(choices_of(MIXED), (3, 7))
        self.assertEqual(choices_of(NONE), ())


class Hanging(unittest.TestCase):
    def test_each_step(self):
        meant = [(), (0,), (), (0,), (0, 1), (), (2,), (2,), (0, 1), (2,), (0, 1, 2)]
        self.assertEqual([hangs_on(MIXED, step) for step in range(11)], meant)

    def test_the_test_of_a_choice_counts(self):
        program = (1, (("input", 0), ("round", 0), ("choice", 1, 0, 0)))
        self.assertEqual(hangs_on(program, 2), (0,))

    def test_numbers_are_no_steps(self):
        # An input's index is the index of no step.
        program = (2, (("input", 0), ("round", 0), ("input", 1), ("sum", 2, 2)))
        self.assertEqual(hangs_on(program, 2), ())
        self.assertEqual(hangs_on(program, 3), ())


class Beside(unittest.TestCase):
    def test_steps_are_moved_along(self):
        for word in ["sum", "less", "times"]:
            found = beside(NONE, MIXED, word)
            self.assertIs(is_program(found), True)
            self.assertEqual(found, (2, NONE[1] + (
                ("input", 1), ("round", 2), ("told", (1, 2)), ("choice", 4, 3, 2), ("round", 5), ("input", 0),
                ("round", 7), ("choice", 8, 4, 4), ("times", 6, 6), ("less", 7, 9), ("sum", 10, 11),
                (word, 1, 12),
            )))

    def test_order_of_the_two(self):
        found = beside(MIXED, NONE, "less")
        self.assertEqual(found[1][:11], MIXED[1])
        self.assertEqual(found[1][11:], (("input", 0), ("told", (3, 1)), ("less", 10, 12)))

    def test_with_itself(self):
        found = beside(NONE, NONE, "times")
        self.assertEqual(found, (2, NONE[1] + NONE[1] + (("times", 1, 3),)))
