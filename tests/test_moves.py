import random
import unittest

from chancegrain.forms import is_program
from chancegrain.moves import moved, moves_of
from chancegrain.worths import exact_result
from tests.helpers import roundings_many, some_inputs, some_program, whole
from tests.movehelpers import plain_moved, plain_moves

HALF, ONE, ZERO = (1, 2), (1, 1), (0, 1)
FIRST, SECOND = ("input", 0), ("input", 1)
WORDS = ["sum", "less", "times", "times", "round", "round", "round", "choice"]
TAIL = ("told", ZERO)


def of(*steps):
    return (2, (FIRST, SECOND) + steps)


class Drops(unittest.TestCase):
    def test_ahead_of_others(self):
        program = of(("round", 0), ("sum", 2, 1), ("round", 3), ("less", 4, 2))
        self.assertEqual(moved(program, ("drop", 0)), of(("sum", 0, 1), ("round", 2), ("less", 3, 0)))
        self.assertEqual(moved(program, ("drop", 1)), of(("round", 0), ("sum", 2, 1), ("less", 3, 2)))

    def test_a_rounding_of_a_rounding(self):
        program = of(("round", 0), ("round", 2), ("times", 3, 2))
        self.assertEqual(moved(program, ("drop", 0)), of(("round", 0), ("times", 2, 0)))
        self.assertEqual(moved(program, ("drop", 1)), of(("round", 0), ("times", 2, 2)))

    def test_of_the_result(self):
        self.assertEqual(moved(of(("round", 1)), ("drop", 0)), of())
        self.assertEqual(moved(of(("round", 0)), ("drop", 0)), of(TAIL, ("sum", 0, 2)))
        self.assertEqual(moved(of(("round", 0), ("times", 2, 2), ("round", 2)), ("drop", 1)),
                         of(("round", 0), ("times", 2, 2), TAIL, ("sum", 2, 4)))

    def test_a_step_that_nothing_uses(self):
        program = of(("round", 0), ("times", 2, 0), ("round", 1), ("told", HALF))
        self.assertEqual(moved(program, ("drop", 0)), of(("times", 0, 0), ("round", 1), ("told", HALF)))
        self.assertEqual(moved(program, ("drop", 1)), of(("round", 0), ("times", 2, 0), ("told", HALF)))

    def test_of_a_told_step(self):
        program = (0, (("told", HALF), ("round", 0), ("times", 1, 1)))
        self.assertEqual(moves_of(program), [("drop", 0), ("put", 2)])
        self.assertEqual(moved(program, ("drop", 0)), (0, (("told", HALF), ("times", 0, 0))))


class Joins(unittest.TestCase):
    def test_of_one_step_twice_and_thrice(self):
        program = of(("round", 0), ("round", 1), ("round", 0), ("round", 0), ("sum", 2, 4), ("choice", 5, 6, 3))
        self.assertEqual([move for move in moves_of(program) if move[0] == "join"],
                         [("join", 0, 2), ("join", 0, 3), ("join", 2, 3)])
        self.assertEqual(moved(program, ("join", 0, 2)),
                         of(("round", 0), ("round", 1), ("round", 0), ("sum", 2, 2), ("choice", 4, 5, 3)))
        self.assertEqual(moved(program, ("join", 2, 3)),
                         of(("round", 0), ("round", 1), ("round", 0), ("sum", 2, 4), ("choice", 4, 5, 3)))

    def test_of_the_result(self):
        self.assertEqual(moved(of(("round", 0), ("round", 0)), ("join", 0, 1)), of(("round", 0)))
        self.assertEqual(moved(of(("round", 0), ("told", ONE), ("round", 0)), ("join", 0, 1)),
                         of(("round", 0), ("told", ONE), TAIL, ("sum", 2, 4)))

    def test_roundings_that_come_to_be_of_one_step(self):
        program = of(("round", 0), ("round", 2), ("round", 0))
        self.assertNotIn(("join", 0, 1), moves_of(program))
        behind = moved(program, ("drop", 0))
        self.assertEqual(behind, of(("round", 0), ("round", 0)))
        self.assertIn(("join", 0, 1), moves_of(behind))


class Overs(unittest.TestCase):
    def test_sums_and_differences(self):
        program = of(("less", 1, 0), ("round", 2), ("sum", 3, 2))
        self.assertIn(("over", 0), moves_of(program))
        self.assertEqual(moved(program, ("over", 0)),
                         of(("less", 1, 0), ("round", 1), ("round", 0), ("less", 3, 4), ("sum", 5, 2)))

    def test_a_sum_of_one_step_with_itself(self):
        program = of(("sum", 0, 0), ("round", 2))
        self.assertEqual(moved(program, ("over", 0)), of(("sum", 0, 0), ("round", 0), ("round", 0), ("sum", 3, 4)))

    def test_two_roundings_of_one_sum(self):
        program = of(("sum", 0, 1), ("round", 2), ("round", 2), ("times", 3, 4))
        self.assertEqual(moved(program, ("over", 1)), of(
            ("sum", 0, 1), ("round", 2), ("round", 0), ("round", 1), ("sum", 4, 5), ("times", 3, 6),
        ))

    def test_what_is_no_sum(self):
        for step in [("times", 0, 1), ("choice", 0, 1, 0), ("told", HALF), ("round", 0), FIRST]:
            self.assertNotIn("over", [move[0] for move in moves_of(of(step, ("round", 2)))])


class Scales(unittest.TestCase):
    def test_a_told_step_on_either_side(self):
        left = of(("told", HALF), ("times", 2, 1), ("round", 3), ("sum", 4, 4))
        self.assertEqual(moved(left, ("scale", 0)),
                         of(("told", HALF), ("times", 2, 1), ("round", 1), ("times", 2, 4), ("sum", 5, 5)))
        right = of(("told", HALF), ("times", 1, 2), ("round", 3))
        self.assertEqual(moved(right, ("scale", 0)), of(("told", HALF), ("times", 1, 2), ("round", 1), ("times", 4, 2)))

    def test_on_both(self):
        program = of(("told", HALF), ("told", ONE), ("times", 2, 3), ("round", 4))
        self.assertEqual(moved(program, ("scale", 0)),
                         of(("told", HALF), ("told", ONE), ("times", 2, 3), ("round", 3), ("times", 2, 5)))
        twice = of(("told", HALF), ("times", 2, 2), ("round", 3))
        self.assertEqual(moved(twice, ("scale", 0)), of(("told", HALF), ("times", 2, 2), ("round", 2), ("times", 2, 4)))

    def test_what_is_no_product_with_a_told_step(self):
        for step in [("times", 0, 1), ("sum", 0, 2), ("choice", 2, 0, 1), ("told", HALF)]:
            self.assertNotIn("scale", [move[0] for move in moves_of(of(("told", HALF), step, ("round", 3)))])
        rounded = of(("told", HALF), ("round", 2), ("times", 0, 3), ("round", 4))
        self.assertNotIn(("scale", 1), moves_of(rounded))
        self.assertIn(("scale", 0), moves_of(moved(rounded, ("drop", 0))))


class Puts(unittest.TestCase):
    def test_what_is_used_several_times(self):
        program = of(("sum", 0, 1), ("choice", 0, 2, 2), ("told", HALF))
        self.assertEqual(moves_of(program), [("put", 0), ("put", 1), ("put", 2), ("put", 3)])
        self.assertEqual(moved(program, ("put", 2)),
                         of(("sum", 0, 1), ("round", 2), ("choice", 0, 3, 3), ("told", HALF)))
        self.assertEqual(moved(program, ("put", 0)),
                         (2, (FIRST, ("round", 0), SECOND, ("sum", 1, 2), ("choice", 1, 3, 3), ("told", HALF))))

    def test_the_result(self):
        self.assertEqual(moved(of(("sum", 0, 1)), ("put", 2)), of(("sum", 0, 1), ("round", 2)))
        self.assertEqual(moved(of(), ("put", 1)), of(("round", 1)))

    def test_a_step_that_nothing_uses(self):
        self.assertEqual(moved(of(("times", 0, 0), ("told", ONE)), ("put", 2)),
                         of(("times", 0, 0), ("round", 2), ("told", ONE)))

    def test_told_steps_roundings_and_arguments(self):
        program = of(("told", ONE), ("round", 1), ("round", 3))
        self.assertEqual(moves_of(program), [("drop", 0), ("drop", 1), ("put", 0)])


class Moves(unittest.TestCase):
    def test_five_roundings(self):
        four = of(("sum", 0, 1), ("round", 2), ("round", 2), ("round", 1), ("round", 1), ("told", HALF),
                  ("times", 7, 0))
        words = {move[0] for move in moves_of(four)}
        self.assertEqual(words, {"drop", "join", "over", "put"})
        five = moved(four, ("put", 8))
        self.assertEqual(roundings_many(five), 5)
        self.assertEqual({move[0] for move in moves_of(five)}, {"drop", "join", "scale"})
        self.assertEqual(moves_of(five), plain_moves(five))

    def test_none(self):
        self.assertEqual(moves_of((0, (("told", HALF),))), [])
        self.assertEqual(moves_of((0, (("told", HALF), ("told", ONE)))), [])

    def test_drawn_programs(self):
        chance = random.Random(400)
        seen = {}
        for _ in range(250):
            program = some_program(chance, 2, 9, WORDS)
            inputs = some_inputs(chance, 2)
            exact = exact_result(program, inputs)
            for _ in range(3):
                moves = moves_of(program)
                self.assertEqual(moves, plain_moves(program))
                behind = []
                for move in moves:
                    found = moved(program, move)
                    self.assertIs(is_program(found), True)
                    self.assertEqual(found, plain_moved(program, move), (program, move))
                    self.assertEqual(exact_result(found, inputs), exact)
                    self.assertLessEqual(roundings_many(found), 5)
                    seen[move[0]] = seen.get(move[0], 0) + 1
                    behind.append(found)
                program = chance.choice(behind)
        self.assertGreater(min(seen.values()), 40)
        self.assertEqual(len(seen), 5)

    def test_programs_stay_as_they_were(self):
        program = of(("sum", 0, 1), ("round", 2), ("round", 2), ("times", 3, 4))
        kept = (2, tuple([tuple(list(step)) for step in program[1]]))
        for move in moves_of(program):
            moved(program, move)
        self.assertEqual(program, kept)
        moves_of(program).append(None)
        self.assertNotIn(None, moves_of(program))
        self.assertEqual(whole(1), ONE)
