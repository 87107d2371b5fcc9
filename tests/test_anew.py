import random
import unittest
from itertools import combinations

from chancegrain.anew import anew, anew_roundings, least_anew
from chancegrain.errors import NotPlain, TooMany
from chancegrain.forms import is_program
from chancegrain.kinds import is_mild
from chancegrain.right import is_right
from chancegrain.worths import exact_result
from tests.helpers import plain_mean, roundings_many, some_inputs, some_program, some_rule, whole

WORDS = ["sum", "less", "times", "times", "round", "round"]
INPUT = ("input", 0)
CUBE = (1, (INPUT, ("round", 0), ("times", 1, 1), ("times", 2, 1)))
CHOOSING = (1, (INPUT, ("round", 0), ("times", 1, 1), ("choice", 0, 0, 2)))


def products(program):
    return [at for at, step in enumerate(program[1]) if step[0] == "times"]


def lots_of(indexes):
    return [lot for count in range(len(indexes) + 1) for lot in combinations(indexes, count)]


def sides(step):
    return () if step[0] in ("input", "told") else step[1:]


def behind(steps, at):
    """All that a step is worked out from, itself too."""
    found = {at}
    for side in sides(steps[at]):
        found |= behind(steps, side)
    return found


def plain_anew(program, lot):
    """The program that anew tells, by an independent reckoning."""
    written, place = [], {}
    for at, step in enumerate(program[1]):
        named = [place[side] for side in sides(step)]
        if at in lot:
            copy = {}
            for one in sorted(behind(written, named[1])):
                if any(written[other][0] == "round" for other in behind(written, one)):
                    copy[one] = len(written)
                    written.append(written[one][:1] + tuple([copy.get(side, side) for side in sides(written[one])]))
            named[1] = copy.get(named[1], named[1])
        place[at] = len(written)
        written.append(step if step[0] in ("input", "told") else step[:1] + tuple(named))
    return (program[0], tuple(written))


class Anew(unittest.TestCase):
    def test_nothing(self):
        self.assertEqual(anew(CUBE, ()), CUBE)
        self.assertEqual(anew_roundings(CUBE, ()), 0)

    def test_each_lot(self):
        first, second = ("round", 0), ("times", 1, 2)
        self.assertEqual(anew(CUBE, (2,)), (1, (INPUT, first, first, second, ("times", 3, 1))))
        self.assertEqual(anew(CUBE, (3,)), (1, (INPUT, first, ("times", 1, 1), first, ("times", 2, 3))))
        self.assertEqual(anew(CUBE, (2, 3)), (1, (INPUT, first, first, second, first, ("times", 3, 4))))
        self.assertEqual([anew_roundings(CUBE, lot) for lot in [(2,), (3,), (2, 3)]], [1, 1, 2])

    def test_a_second_side_without_roundings(self):
        program = (1, (INPUT, ("round", 0), ("told", (1, 2)), ("sum", 0, 2), ("times", 1, 3), ("times", 3, 4)))
        self.assertEqual(anew(program, (4,)), program)
        self.assertEqual(anew_roundings(program, (4,)), 0)
        self.assertEqual(anew(program, (4, 5))[1][5:], (("round", 0), ("times", 5, 3), ("times", 3, 6)))

    def test_only_what_hangs_on_roundings_is_copied(self):
        steps = (INPUT, ("told", (1, 2)), ("times", 0, 1), ("round", 2), ("sum", 2, 3), ("less", 4, 1))
        program = (1, steps + (("times", 5, 5),))
        self.assertEqual(anew(program, (6,)), (1, steps + (
            ("round", 2), ("sum", 2, 6), ("less", 7, 1), ("times", 5, 8),
        )))

    def test_a_step_that_is_needed_twice(self):
        steps = (INPUT, ("round", 0), ("sum", 1, 1), ("times", 2, 1))
        self.assertEqual(anew((1, steps + (("times", 3, 3),)), (4,)), (1, steps + (
            ("round", 0), ("sum", 4, 4), ("times", 5, 4), ("times", 3, 6),
        )))

    def test_copies_of_copies(self):
        program = (1, (INPUT, ("round", 0), ("times", 1, 1), ("round", 2), ("times", 3, 3)))
        self.assertEqual(anew(program, (2, 4)), (1, (
            INPUT, ("round", 0), ("round", 0), ("times", 1, 2), ("round", 3),
            ("round", 0), ("round", 0), ("times", 5, 6), ("round", 7), ("times", 4, 8),
        )))
        self.assertEqual(anew_roundings(program, (2, 4)), 4)
        self.assertEqual(anew_roundings(program, (4,)), 2)

    def test_steps_that_nothing_needs(self):
        program = (1, (INPUT, ("round", 0), ("times", 1, 1), ("sum", 0, 0)))
        self.assertEqual(anew(program, (2,))[1], (INPUT, ("round", 0), ("round", 0), ("times", 1, 2), ("sum", 0, 0)))
        chain = tuple([("times", at, at) for at in range(1, 11)])
        longest = (1, (INPUT, ("round", 0)) + chain + (INPUT,))
        self.assertEqual(anew_roundings(longest, tuple(range(2, 12))), 1023)

    def test_drawn_programs(self):
        chance = random.Random(290)
        for _ in range(120):
            program = some_program(chance, 2, 9, WORDS)
            inputs = some_inputs(chance, 2)
            exact = exact_result(program, inputs)
            for lot in lots_of(products(program)):
                found = anew(program, lot)
                self.assertIs(is_program(found), True)
                self.assertEqual(found, plain_anew(program, lot))
                self.assertEqual(exact_result(found, inputs), exact)
                self.assertEqual(anew_roundings(program, lot), roundings_many(found) - roundings_many(program))
            self.assertIs(is_mild(found), True)


class Least(unittest.TestCase):
    def check(self, program):
        lots = least_anew(program)
        right = [set(lot) for lot in lots_of(products(program)) if is_right(anew(program, lot))]
        meant = [tuple(sorted(lot)) for lot in right if not any(other < lot for other in right)]
        self.assertEqual(lots, sorted(meant))

    def test_chosen_programs(self):
        self.assertEqual(least_anew(CUBE), [(2, 3)])
        self.assertEqual(least_anew((1, CUBE[1][:3] + (("less", 2, 2),))), [()])
        self.assertEqual(least_anew((1, (INPUT, ("round", 0)))), [()])
        self.assertEqual(least_anew((1, (INPUT,))), [()])
        for steps in [
            (INPUT, ("round", 0), ("times", 1, 1), ("times", 1, 1), ("less", 2, 3)),
            (INPUT, ("round", 0), ("round", 0), ("times", 1, 2), ("times", 3, 1)),
            (INPUT, ("round", 0), ("times", 1, 1), ("round", 0), ("times", 3, 3), ("times", 2, 4)),
            (INPUT, ("round", 0), ("times", 1, 1), ("round", 2), ("times", 3, 1), ("sum", 4, 2)),
            (INPUT, ("round", 0), ("less", 1, 0), ("times", 2, 2), ("round", 0), ("less", 4, 0), ("times", 3, 5)),
        ]:
            self.check((1, steps))

    def test_lots_that_do_not_stay_right(self):
        # Right as it is, for both squares are one; not right with one of them worked out anew.
        program = (1, (INPUT, ("round", 0), ("times", 1, 1), ("times", 1, 1), ("less", 2, 3)))
        self.assertIs(is_right(anew(program, (3,))), False)
        self.assertEqual(least_anew(program), [()])

    def test_several_lots(self):
        # e * f * f of two errors: it is enough to have the f anew in either of both products.
        errors = (INPUT, ("round", 0), ("less", 1, 0), ("round", 0), ("less", 3, 0))
        program = (1, errors + (("times", 2, 4), ("times", 5, 4)))
        self.assertEqual(least_anew(program), [(5,), (6,)])
        self.check(program)
        # e * e * f is right as it is: f is thrown behind e.
        self.assertEqual(least_anew((1, errors + (("times", 2, 2), ("times", 5, 4)))), [()])
        squares = (INPUT, ("round", 0), ("times", 1, 1), ("round", 0), ("times", 3, 3), ("sum", 2, 4))
        self.assertEqual(least_anew((1, squares)), [(2, 4)])

    def test_drawn_programs(self):
        chance = random.Random(291)
        seen = 0
        for _ in range(250):
            program = some_program(chance, 2, 9, WORDS)
            self.check(program)
            seen += least_anew(program) != [()]
        self.assertGreater(seen, 25)

    def test_means_by_rules_that_look_back(self):
        chance = random.Random(292)
        for _ in range(40):
            program = some_program(chance, 2, 8, WORDS)
            inputs = some_inputs(chance, 2)
            for lot in least_anew(program):
                told = anew(program, lot)
                if roundings_many(told) <= 5:
                    mean = plain_mean(told, inputs, some_rule(chance, told, inputs))
                    self.assertEqual((mean.numerator, mean.denominator), exact_result(program, inputs))

    def test_six_products_and_seven(self):
        steps = (INPUT, ("round", 0)) + tuple([("times", at, 1) for at in range(1, 7)])
        self.assertEqual(least_anew((1, steps)), [(2, 3, 4, 5, 6, 7)])
        more = (1, steps + (("times", 0, 0), ("sum", 7, 7)))
        with self.assertRaises(TooMany) as caught:
            least_anew(more)
        self.assertEqual(caught.exception.most, 6)
        self.assertEqual(len(anew(more, (8,))[1]), 10)

    def test_powers_of_sums(self):
        # The polynomials of the copies would have millions of members.
        steps = (INPUT, ("round", 0), ("round", 0), ("round", 0), ("sum", 0, 1), ("sum", 4, 2), ("sum", 5, 3),
                 ("times", 6, 6), ("times", 7, 6), ("times", 8, 8), ("times", 9, 9))
        self.assertEqual(least_anew((1, steps)), [(7, 8, 9, 10)])
        # Besides, e * e * f of two of the errors: it is right as it is, but not mild.
        more = (("less", 1, 0), ("less", 2, 0), ("times", 11, 11), ("times", 13, 12), ("sum", 10, 14))
        self.assertEqual(least_anew((1, steps + more)), [(7, 8, 9, 10)])

    def test_lists_are_the_callers(self):
        least_anew(CUBE).append(None)
        self.assertEqual(least_anew(CUBE), [(2, 3)])
        self.assertEqual(CUBE[1][2:], (("times", 1, 1), ("times", 2, 1)))


class NotPlainOnes(unittest.TestCase):
    def test_all_functions(self):
        many = (1, CHOOSING[1] + (("times", 0, 0),) * 7)
        for program in [CHOOSING, many]:
            for told, more in [(anew, ((2,),)), (anew, ((),)), (anew_roundings, ((2,),)), (least_anew, ())]:
                with self.assertRaises(NotPlain) as caught:
                    told(program, *more)
                self.assertEqual(caught.exception.step, 3)
