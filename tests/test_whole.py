"""The guarantees over drawn programs and behind their moves, and what holds of all functions."""

import copy
import random
import unittest
from fractions import Fraction

from chancegrain.anew import least_anew
from chancegrain.counters import counter_at, counter_of, gap_of, is_counter, is_short
from chancegrain.desk import Desk
from chancegrain.draws import fewest_draws, is_fair, use_for, use_mean
from chancegrain.errors import NotByLevels, TooMany
from chancegrain.errorthrows import rule_of
from chancegrain.forever import first_amiss, is_loop_counter, loop_counter
from chancegrain.fractions import in_order
from chancegrain.grainmeans import greatest_mean, greatest_plan, least_mean, least_plan
from chancegrain.kindcounters import even_counter, own_counter
from chancegrain.kinds import bad_lots, is_even_right, is_mild, is_own_right, kind_of
from chancegrain.lines import is_lower_paper, is_upper_paper, lower_paper, paper_bound, upper_paper
from chancegrain.live import Live
from chancegrain.loops import mean_behind, values_behind
from chancegrain.lots import error_lots, lots_at, merged_lots
from chancegrain.movedkinds import kinds_behind, squares_behind
from chancegrain.moves import moved, moves_of
from chancegrain.neighbours import is_neighbour_rule, neighbour_rule
from chancegrain.polynomials import worth_at
from chancegrain.reaches import grain_pasts, is_on_grains
from chancegrain.right import is_right, right_at
from chancegrain.rounded import later_exact
from chancegrain.rules import chance_of, is_rule, mean_of, pasts_that_come, result_throw, square_of
from chancegrain.samethrow import matched_throws, matchings, parting_throws
from chancegrain.sides import safe_lots
from chancegrain.spread import greatest_square, is_within, square_parts, widest_throws
from chancegrain.wider import parting_widths, wider_lots
from chancegrain.worths import exact_result, values_of
from tests.grainhelpers import all_pasts_many, plain_best, some_grain_rule, some_grains
from tests.helpers import (
    error_rule, even_throw, fraction_of, number, plain_mean, plain_results, roundings_many, some_inputs, some_program,
    some_rule, some_throw, whole,
)

HALF, ONE, ZERO = (1, 2), (1, 1), (0, 1)
FIRST = ("input", 0)
WORDS = ["sum", "less", "times", "times", "round", "round"]
KINDS = ["mild", "right", "own", "even", "none"]


def family(chance, words=WORDS, count=8):
    """A drawn program, and those behind a few moves, one behind the other."""
    found = [some_program(chance, 2, count, words)]
    while len(found) < 4 and moves_of(found[-1]):
        found.append(moved(found[-1], chance.choice(moves_of(found[-1]))))
    return [program for program in found if roundings_many(program) <= 4]


class Guarantees(unittest.TestCase):
    def test_right_for_all_rules(self):
        chance = random.Random(500)
        seen = [0, 0]
        for _ in range(60):
            for program in family(chance):
                inputs = some_inputs(chance, 2)
                exact = number(exact_result(program, inputs))
                found = counter_of(program)
                seen[found is None] += 1
                self.assertEqual(found is None, is_right(program))
                self.assertIs(right_at(program, inputs), counter_at(program, inputs) is None)
                if found is None:
                    for _ in range(3):
                        self.assertEqual(plain_mean(program, inputs, some_rule(chance, program, inputs)), exact)
                else:
                    self.assertNotEqual(plain_mean(program, *found), number(exact_result(program, found[0])))
                    self.assertIs(is_short(program, *found), True)
                    self.assertIs(is_counter(program, found), True)
                # LATER EXACT of 0 is what comes without rounding.
                self.assertEqual(worth_at(later_exact(program, 0), inputs + (ZERO,) * roundings_many(program)),
                                 fraction_of(exact))
        self.assertGreater(min(seen), 30)

    def test_four_kinds(self):
        chance = random.Random(501)
        for _ in range(60):
            for program in family(chance):
                told = [is_mild(program), is_right(program), is_own_right(program), is_even_right(program)]
                self.assertEqual(told, sorted(told))
                self.assertEqual(kind_of(program), KINDS[told.index(True) if True in told else 4])
                inputs = some_inputs(chance, 2)
                exact = number(exact_result(program, inputs))
                many = roundings_many(program)
                for counter, kind, throws in [
                    (own_counter(program), 2, tuple([some_throw(chance, ZERO) for _ in range(many)])),
                    (even_counter(program), 3, tuple([even_throw(chance.randint(1, 4)) for _ in range(many)])),
                ]:
                    self.assertEqual(counter is None, told[kind])
                    if counter is None:
                        self.assertEqual(plain_mean(program, inputs, error_rule(program, inputs, throws)), exact)
                    else:
                        rule = error_rule(program, *counter)
                        self.assertNotEqual(plain_mean(program, counter[0], rule),
                                            number(exact_result(program, counter[0])))

    def test_spread(self):
        chance = random.Random(502)
        seen = 0
        for _ in range(80):
            mild = [program for program in family(chance) if is_mild(program)]
            for program in mild:
                inputs, many = some_inputs(chance, 2), roundings_many(program)
                widths = tuple([fraction_of(Fraction(chance.randint(0, 4), chance.randint(1, 3))) for _ in range(many)])
                greatest = greatest_square(program, inputs, widths)
                rule = rule_of(program, inputs, widest_throws(program, widths))
                self.assertEqual(square_of(program, inputs, rule), greatest)
                self.assertIs(is_within(program, inputs, widths, rule), True)
                for other in mild:
                    if roundings_many(other) == many:
                        seen += self.check_wider(program, other, inputs, widths)
        self.assertGreater(seen, 10)

    def check_wider(self, one, other, inputs, widths):
        parting = parting_widths(one, other, inputs)
        squares = [number(greatest_square(program, inputs, parting or widths)) for program in (one, other)]
        self.assertEqual(squares[0] > squares[1], parting is not None)
        return parting is not None

    def test_draws(self):
        chance = random.Random(503)
        for _ in range(40):
            for program in family(chance):
                # What comes without rounding, had by draws of the inputs.
                goal = tuple([(powers[:2], factor) for powers, factor in later_exact(program, 0)])
                counts = fewest_draws(2, goal)
                if sum(counts) > 5:
                    continue
                use, values = use_for(2, goal, counts), some_inputs(chance, 2)
                self.assertIs(is_fair(2, goal, counts, use), True)
                rule = {} if sum(counts) == 0 else {(): some_throw(chance, values[0 if counts[0] else 1])}
                self.assertEqual(use_mean(counts, use, values, rule), exact_result(program, values))

    def test_loops(self):
        chance = random.Random(504)
        seen = [0, 0]
        while min(seen) < 25:
            program = some_program(chance, 1, 5, ["sum", "less", "times", "round"])
            if moves_of(program) and chance.random() < 0.7:
                program = moved(program, chance.choice(moves_of(program)))
            if roundings_many(program) not in (1, 2):
                continue
            loop = program + ((len(program[1]) - 1,),)
            goal = chance.choice([(((1,), ONE),), (((2,), ONE),), (((1,), ONE), ((2,), HALF))])
            try:
                amiss = first_amiss(loop, goal)
            except (NotByLevels, TooMany):
                continue
            seen[amiss is None] += 1
            if amiss is not None:
                counter = loop_counter(loop, goal)
                self.assertIs(is_loop_counter(loop, goal, counter), True)
            values = some_inputs(chance, 1)
            for count in range(1, 4 if amiss is None else amiss):
                if count <= 3:
                    rule = some_rule(chance, program, values)
                    exact = worth_at(goal, values_behind(loop, values, count))
                    self.assertEqual(mean_behind(loop, goal, values, count, rule), exact)

    def test_grains(self):
        chance = random.Random(505)
        seen = 0
        while seen < 60:
            for program in family(chance, WORDS + ["choice"]):
                inputs, grains = some_inputs(chance, 2), some_grains(chance, roundings_many(program), 3)
                if all_pasts_many(program, inputs, grains) > 150:
                    continue
                seen += 1
                least, greatest = [plain_best(program, inputs, grains, pick) for pick in (min, max)]
                self.assertEqual(number(least_mean(program, inputs, grains)), least)
                self.assertEqual(number(greatest_mean(program, inputs, grains)), greatest)
                self.assertEqual(plain_mean(program, inputs, least_plan(program, inputs, grains)), least)
                self.assertEqual(plain_mean(program, inputs, greatest_plan(program, inputs, grains)), greatest)
                rule = some_grain_rule(chance, program, inputs, grains)
                self.assertTrue(least <= plain_mean(program, inputs, rule) <= greatest)
                paper = upper_paper(program, inputs, grains)
                self.assertEqual(number(paper_bound(program, inputs, paper)), greatest)
                if not any(step[0] == "choice" for step in program[1]) and is_right(program):
                    self.assertEqual([least, greatest], [number(exact_result(program, inputs))] * 2)

    def test_same_throws(self):
        chance = random.Random(506)
        seen = [0, 0]
        for _ in range(500):
            programs = family(chance)
            for one, other in zip(programs, programs[1:] + programs[:1]):
                if roundings_many(one) != roundings_many(other):
                    self.assertEqual(matchings(one, other), [])
                    continue
                found = matchings(one, other)
                seen[found != []] += 1
                inputs = some_inputs(chance, 2)
                throws = tuple([some_throw(chance, ZERO) for _ in range(roundings_many(one))])
                for matching in found:
                    self.assertEqual(*self.both(one, other, inputs, throws, matching))
                matching = tuple(chance.sample(range(len(throws)), len(throws)))
                if matching not in found:
                    parting = parting_throws(one, other, matching)
                    self.assertNotEqual(*self.both(one, other, *parting, matching))
        self.assertGreater(min(seen), 15)

    def both(self, one, other, inputs, throws, matching):
        found = []
        for program, told in [(one, throws), (other, matched_throws(matching, throws))]:
            shares = {}
            for _, share, result in plain_results(program, inputs, error_rule(program, inputs, told)):
                shares[result] = shares.get(result, 0) + share
            found.append(shares)
        return found


SQUARE = (1, (FIRST, ("round", 0), ("times", 1, 1)))
TWICE = (1, (FIRST, ("round", 0), ("round", 0), ("times", 1, 2)))
ADDED = (1, TWICE[1][:3] + (("sum", 1, 2),))
LOOP = (1, (FIRST, ("round", 0)), (1,))
GOAL = (((2,), ONE),)
GRAINS = ((ONE, ONE), (HALF, ONE))
RULE = {((ONE,)): ((ZERO, HALF), (ONE, HALF)), (): ((ZERO, HALF), (ONE, HALF))}
SINGLE = {(): ((whole(-1), HALF), (ONE, HALF))}


class Arguments(unittest.TestCase):
    def calls(self):
        """Functions that are passed a dict, with their arguments."""
        half = (HALF,)
        upper = upper_paper(TWICE, half, GRAINS)
        paper = {past: upper[past] for past in reversed(list(upper))}
        return [
            (is_rule, (TWICE, half, RULE)), (chance_of, (TWICE, half, RULE, (ONE,))), (mean_of, (TWICE, half, RULE)),
            (pasts_that_come, (TWICE, half, RULE, 2)), (result_throw, (TWICE, half, RULE)),
            (square_of, (TWICE, half, RULE)),
            (gap_of, (TWICE, half, RULE)), (is_counter, (TWICE, (half, RULE))), (is_short, (SQUARE, half, SINGLE)),
            (is_within, (TWICE, half, (ONE, ONE), RULE)), (use_mean, ((2,), (((1, 1), ONE),), half, RULE)),
            (mean_behind, (LOOP, GOAL, (ZERO,), 2, SINGLE)), (is_loop_counter, (LOOP, GOAL, (1, (ZERO,), SINGLE))),
            (is_on_grains, (TWICE, half, GRAINS, RULE)), (is_neighbour_rule, (TWICE, half, (ONE, ONE), RULE)),
            (is_upper_paper, (TWICE, half, GRAINS, paper)), (is_lower_paper, (TWICE, half, GRAINS, paper)),
            (paper_bound, (TWICE, half, paper)),
        ]

    def test_dicts_stay_as_they_were(self):
        for told, arguments in self.calls():
            kept = copy.deepcopy(arguments)
            orders = [list(one) for one in arguments if isinstance(one, dict)]
            first = told(*arguments)
            self.assertEqual(told(*arguments), first, told)
            self.assertEqual(arguments, kept)
            self.assertEqual([list(one) for one in arguments if isinstance(one, dict)], orders)

    def test_the_order_of_keys_means_nothing(self):
        for told, arguments in self.calls():
            turned = tuple([
                {key: one[key] for key in reversed(list(one))} if isinstance(one, dict) else one for one in arguments
            ])
            self.assertEqual(told(*turned), told(*arguments))


class Returned(unittest.TestCase):
    def calls(self):
        """Functions that return lists or dicts, or such in tuples."""
        half = (HALF,)
        live, led = Live(TWICE), Desk("inputs 1\ninput 0\nround 0")
        live.owe(("right",))
        return [
            (in_order, ([ONE, ZERO],)), (values_of, (SQUARE, half, (ONE,))), (pasts_that_come, (TWICE, half, RULE, 2)),
            (rule_of, (TWICE, half, (SINGLE[()], SINGLE[()]))), (counter_of, (SQUARE,)),
            (counter_at, (SQUARE, half)),
            (error_lots, (TWICE,)), (lots_at, (TWICE, half)), (merged_lots, (TWICE, (0, 0))),
            (bad_lots, (SQUARE, "mild")),
            (square_parts, (TWICE, half, (ONE, ONE))), (wider_lots, (TWICE, ADDED, (whole(3),))),
            (least_anew, (SQUARE,)),
            (loop_counter, (LOOP, GOAL)), (grain_pasts, (TWICE, half, GRAINS, 2)),
            (greatest_plan, (TWICE, half, GRAINS)),
            (least_plan, (TWICE, half, GRAINS)), (upper_paper, (TWICE, half, GRAINS)),
            (lower_paper, (TWICE, half, GRAINS)),
            (safe_lots, (TWICE, half, GRAINS)), (neighbour_rule, (TWICE, half, (ONE, HALF))),
            (matchings, (TWICE, TWICE)),
            (moves_of, (TWICE,)), (kinds_behind, (TWICE,)), (squares_behind, (TWICE, half, ONE)), (live.duties, ()),
            (led.execute, ("program",)), (led.execute, ("kind",)), (led.execute, ("put less 1 0",)),
        ]

    def kept(self, thing):
        """All lists and dicts in a value."""
        if isinstance(thing, (list, tuple)):
            parts = [part for item in thing for part in self.kept(item)]
            return parts + [thing] if isinstance(thing, list) else parts
        if isinstance(thing, dict):
            return [part for item in thing.items() for part in self.kept(item)] + [thing]
        return []

    def test_new_each_time(self):
        found = []
        for told, arguments in self.calls():
            for _ in range(2):
                parts = self.kept(told(*arguments))
                self.assertTrue(parts, told)
                found.extend(parts)
        self.assertEqual(len({id(part) for part in found}), len(found))

    def test_may_be_changed(self):
        for told, arguments in self.calls():
            first = told(*arguments)
            meant = copy.deepcopy(first)
            for part in self.kept(first):
                part.clear()
            self.assertEqual(told(*arguments), meant, told)

    def test_keys_are_ascending(self):
        for told, arguments in self.calls():
            for part in self.kept(told(*arguments)):
                if isinstance(part, dict):
                    keys = list(part)
                    if keys and keys[0] == ():
                        keys = [tuple([number(item) for item in past]) for past in keys]
                    self.assertEqual(keys, sorted(keys), told)
