import random
import unittest

from chancegrain.errors import NotPlain
from chancegrain.kinds import bad_lots, is_even_right, is_mild, is_own_right, is_shared_right, kind_of
from chancegrain.right import is_right
from chancegrain.worths import exact_result, result_of
from tests.helpers import (
    error_past, error_rule, fraction_of, number, plain_mean, roundings_many, some_inputs, some_program, some_rule,
    some_throw, whole,
)

WORDS = ["sum", "less", "times", "times", "round", "round"]
HALF, ONE, ZERO = (1, 2), (1, 1), (0, 1)
INPUT = ("input", 0)
SQUARE = (1, (INPUT, ("round", 0), ("times", 1, 1)))
TWICE = (1, (INPUT, ("round", 0), ("round", 0), ("times", 1, 2)))
CHOOSING = (1, (INPUT, ("choice", 0, 0, 0), ("round", 1), ("choice", 0, 0, 0)))
ERROR = (1, (INPUT, ("round", 0), ("less", 1, 0)))
NO_ROUNDINGS = (1, (INPUT, ("times", 0, 0)))
# Programs by the lots of errors in them; e is the first rounding's error, f the second one's.
E_CUBED = (1, ERROR[1] + (("times", 2, 2), ("times", 3, 2)))
E_SQUARED = (1, ERROR[1] + (("times", 2, 2),))
BOTH = (1, ERROR[1] + (("round", 0), ("less", 3, 0)))
# The first rounding's square meets only the error of the second one, which is thrown knowing it.
E_SQUARED_F = (1, BOTH[1] + (("times", 2, 2), ("times", 5, 4)))
E_F_SQUARED = (1, BOTH[1] + (("times", 4, 4), ("times", 2, 5)))
E_SQUARED_F_CUBED = (1, BOTH[1] + (("times", 2, 4), ("times", 5, 5), ("times", 6, 4)))
E_CUBED_F_SQUARED = (1, BOTH[1] + (("times", 2, 4), ("times", 5, 5), ("times", 6, 2)))
E_SQUARED_F_SQUARED = (1, BOTH[1] + (("times", 2, 4), ("times", 5, 5)))


class Words(unittest.TestCase):
    def test_each_word(self):
        for program, word in [
            (NO_ROUNDINGS, "mild"), (ERROR, "mild"), (TWICE, "mild"), (E_SQUARED_F, "right"), (E_F_SQUARED, "own"),
            (E_CUBED, "even"), (E_SQUARED_F_CUBED, "even"), (E_CUBED_F_SQUARED, "even"), (E_SQUARED, "none"),
            (E_SQUARED_F_SQUARED, "none"), (SQUARE, "none"),
        ]:
            self.assertEqual(kind_of(program), word, program)

    def test_each_just_short_of_the_next(self):
        for program, told in [
            (TWICE, [True, True, True, True]), (E_SQUARED_F, [False, True, True, True]),
            (E_F_SQUARED, [False, False, True, True]), (E_CUBED, [False, False, False, True]),
            (SQUARE, [False, False, False, False]),
        ]:
            found = [is_mild(program), is_right(program), is_own_right(program), is_even_right(program)]
            self.assertEqual(found, told)

    def test_bad_lots(self):
        self.assertEqual([bad_lots(SQUARE, word) for word in ["mild", "own", "even"]], [[(2,)]] * 3)
        self.assertEqual([bad_lots(E_CUBED, word) for word in ["mild", "own", "even"]], [[(3,)], [(3,)], []])
        self.assertEqual([bad_lots(E_SQUARED_F, word) for word in ["mild", "own", "even"]], [[(2, 1)], [], []])
        self.assertEqual([bad_lots(E_SQUARED_F_CUBED, word) for word in ["mild", "own", "even"]],
                         [[(2, 3)], [(2, 3)], []])
        self.assertEqual([bad_lots(TWICE, word) for word in ["mild", "own", "even"]], [[]] * 3)
        self.assertEqual([bad_lots(NO_ROUNDINGS, word) for word in ["mild", "own", "even"]], [[]] * 3)

    def test_bad_lots_are_ascending(self):
        # (x + e) ** 3 * (x + f) ** 2 has lots of all sorts.
        steps = BOTH[1] + (("times", 1, 1), ("times", 5, 1), ("times", 3, 3), ("times", 6, 7))
        program = (1, steps)
        meant = sorted((one, other) for one in range(4) for other in range(3) if (one, other) != (0, 0))
        self.assertEqual(bad_lots(program, "mild"), [lot for lot in meant if max(lot) > 1])
        self.assertEqual(bad_lots(program, "own"), [(0, 2), (2, 0), (2, 2), (3, 0), (3, 2)])
        self.assertEqual(bad_lots(program, "even"), [(0, 2), (2, 0), (2, 2)])

    def test_members_that_cancel_are_no_lots(self):
        nothing = (1, SQUARE[1] + (("less", 2, 2),))
        self.assertEqual([kind_of(nothing), bad_lots(nothing, "mild")], ["mild", []])

    def test_lists_are_the_callers(self):
        found = bad_lots(SQUARE, "mild")
        found.append(None)
        self.assertEqual(bad_lots(SQUARE, "mild"), [(2,)])


class Drawn(unittest.TestCase):
    def even_throw(self, chance):
        size = fraction_of(number((chance.randint(1, 5), 2)))
        below = (-size[0], size[1])
        if chance.randint(0, 1):
            return ((below, HALF), (size, HALF))
        return ((below, (1, 4)), (ZERO, HALF), (size, (1, 4)))

    def test_means(self):
        chance = random.Random(240)
        seen = {}
        for _ in range(120):
            program = some_program(chance, 2, 9, WORDS)
            inputs = some_inputs(chance, 2)
            exact = number(exact_result(program, inputs))
            word = kind_of(program)
            seen[word] = seen.get(word, 0) + 1
            many = roundings_many(program)
            own = [tuple([some_throw(chance, ZERO) for _ in range(many)]) for _ in range(6)]
            even = [tuple([self.even_throw(chance) for _ in range(many)]) for _ in range(6)]
            for throws, needed in [(own, ["mild", "right", "own"]), (even, ["mild", "right", "own", "even"])]:
                if word in needed:
                    for one in throws:
                        self.assertEqual(plain_mean(program, inputs, error_rule(program, inputs, one)), exact)
            if word in ["mild", "right"]:
                for _ in range(6):
                    self.assertEqual(plain_mean(program, inputs, some_rule(chance, program, inputs)), exact)
            self.assertIs(is_own_right(program), word in ["mild", "right", "own"])
            self.assertIs(is_even_right(program), word != "none")
            self.assertIs(is_mild(program), word == "mild")
        self.assertGreater(min(seen["mild"], seen["none"]), 10)

    def test_rules_that_look_back(self):
        inputs = (ZERO,)
        aside = ((whole(-1), (2, 3)), (whole(2), (1, 3)))
        rule = {(): aside, (whole(2),): ((whole(-1), HALF), (ONE, HALF)), (whole(-1),): ((ZERO, ONE),)}
        self.assertEqual(plain_mean(E_SQUARED_F, inputs, rule), 0)
        # The second one errs more behind 2 than behind -1: what it errs by is no more its own.
        self.assertNotEqual(plain_mean(E_F_SQUARED, inputs, rule), 0)
        self.assertEqual(plain_mean(E_F_SQUARED, inputs, error_rule(E_F_SQUARED, inputs, (aside, aside))), 0)
        self.assertNotEqual(plain_mean(E_CUBED, inputs, {(): aside}), 0)
        self.assertEqual(plain_mean(E_CUBED, inputs, {(): ((whole(-1), HALF), (ONE, HALF))}), 0)


class Shared(unittest.TestCase):
    def shared_mean(self, program, inputs, classes, throws):
        """The mean if the roundings of each class throw one error together."""
        mean, draws = 0, [((), number(ONE))]
        for throw in throws:
            draws = [(told + (value,), share * number(part)) for told, share in draws for value, part in throw]
        for told, share in draws:
            errors = [told[label] for label in classes]
            mean += share * number(result_of(program, inputs, error_past(program, inputs, errors)))
        return mean

    def test_classes(self):
        self.assertIs(is_shared_right(TWICE, (0, 0)), False)
        self.assertIs(is_shared_right(TWICE, (0, 1)), True)
        self.assertIs(is_shared_right(TWICE, (1, 0)), True)
        self.assertIs(is_shared_right(SQUARE, (0,)), False)
        self.assertIs(is_shared_right(NO_ROUNDINGS, ()), True)
        # Both squares cancel if the errors are one and the same.
        squares = (1, BOTH[1] + (("times", 2, 2), ("times", 4, 4), ("less", 5, 6)))
        self.assertEqual([kind_of(squares), is_shared_right(squares, (0, 0)), is_shared_right(squares, (0, 1))],
                         ["none", True, False])

    def test_drawn_programs(self):
        chance = random.Random(241)
        seen = {True: 0, False: 0}
        for _ in range(120):
            program = some_program(chance, 2, 9, WORDS)
            classes = tuple([0] + [chance.randint(0, 1) for _ in range(roundings_many(program) - 1)])
            inputs = some_inputs(chance, 2)
            means = []
            for _ in range(5):
                throws = [some_throw(chance, ZERO) for _ in range(max(classes) + 1)]
                means.append(self.shared_mean(program, inputs, classes, throws))
            told = is_shared_right(program, classes)
            seen[told] += 1
            if told:
                self.assertEqual(set(means), {number(exact_result(program, inputs))})
        self.assertGreater(min(seen.values()), 15)


class NotPlainOnes(unittest.TestCase):
    def test_all_functions(self):
        for told, more in [
            (bad_lots, ("mild",)), (bad_lots, ("own",)), (bad_lots, ("even",)), (is_mild, ()), (is_own_right, ()),
            (is_even_right, ()), (kind_of, ()), (is_shared_right, ((0,),)),
        ]:
            with self.assertRaises(NotPlain) as caught:
                told(CHOOSING, *more)
            self.assertEqual(caught.exception.step, 1)
