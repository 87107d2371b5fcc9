import random
import unittest
from fractions import Fraction

from chancegrain.forms import is_fraction
from chancegrain.fractions import is_ahead
from chancegrain.grainmeans import greatest_mean, least_mean
from chancegrain.lines import is_lower_paper, is_upper_paper, lower_paper, paper_bound, upper_paper
from chancegrain.worths import exact_result
from tests.grainhelpers import (
    LATER, SINGLE, all_rules, plain_argument, plain_next, plain_pasts, some_case, some_grain_rule,
)
from tests.helpers import exchanged, fraction_of, number, odd_values, plain_mean, plain_values, whole

HALF, ONE, ZERO = (1, 2), (1, 1), (0, 1)
WIDE = ((ONE, whole(2)),)
NONE = (1, (("input", 0), ("times", 0, 0)))
INPUTS, GRAINS = (HALF, (1, 5)), ((ONE, ONE), ((1, 3), HALF))
WORDS = ["sum", "less", "times", "times", "round", "round", "choice"]


def line_at(line, value):
    return number(line[0]) + number(line[1]) * value


def plain_bound(program, inputs, paper, past):
    if len(past) == len([step for step in program[1] if step[0] == "round"]):
        return plain_values(program, inputs, past)[-1]
    return line_at(paper[past], plain_argument(program, inputs, past))


def plain_gaps(program, inputs, grains, paper):
    """By how much each line is above the bound of each value that can come next."""
    return [
        line_at(paper[past], value) - plain_bound(program, inputs, paper, past + (fraction_of(value),))
        for count in range(len(grains))
        for past in plain_pasts(program, inputs, grains, count)
        for value in plain_next(program, inputs, grains, past)
    ]


def shifted(line, by):
    return (fraction_of(number(line[0]) + by), line[1])


class Papers(unittest.TestCase):
    def check(self, program, inputs, grains):
        pasts = [past for count in range(len(grains)) for past in plain_pasts(program, inputs, grains, count)]
        upper, lower = upper_paper(program, inputs, grains), lower_paper(program, inputs, grains)
        for paper in [upper, lower]:
            keys = list(paper)
            self.assertEqual(set(keys), set(pasts))
            self.assertEqual(len(keys), len(pasts))
            self.assertTrue(all(is_ahead(one, other) for one, other in zip(keys, keys[1:])))
        self.assertTrue(all(gap >= 0 for gap in plain_gaps(program, inputs, grains, upper)))
        self.assertTrue(all(gap <= 0 for gap in plain_gaps(program, inputs, grains, lower)))
        self.assertEqual(paper_bound(program, inputs, upper), greatest_mean(program, inputs, grains))
        self.assertEqual(paper_bound(program, inputs, lower), least_mean(program, inputs, grains))
        self.assertIs(is_upper_paper(program, inputs, grains, upper), True)
        self.assertIs(is_lower_paper(program, inputs, grains, lower), True)
        for paper in [upper, lower]:
            gaps = plain_gaps(program, inputs, grains, paper)
            self.assertIs(is_upper_paper(program, inputs, grains, paper), min(gaps, default=0) >= 0)
            self.assertIs(is_lower_paper(program, inputs, grains, paper), max(gaps, default=0) <= 0)
        return upper, lower

    def test_drawn_programs(self):
        chance = random.Random(350)
        for _ in range(60):
            program, inputs, grains = some_case(chance, words=WORDS)
            upper, lower = self.check(program, inputs, grains)
            past = chance.choice(list(upper))
            for paper, told, meant in [(upper, is_upper_paper, min), (lower, is_lower_paper, max)]:
                for by in [Fraction(1, 10 ** 9), -Fraction(1, 10 ** 9), Fraction(3), Fraction(-3)]:
                    other = {**paper, past: shifted(paper[past], by)}
                    gaps = plain_gaps(program, inputs, grains, other)
                    right = meant(gaps) >= 0 if meant is min else meant(gaps) <= 0
                    self.assertIs(told(program, inputs, grains, other), right)

    def test_drawn_papers_bound_all_drawn_rules(self):
        chance = random.Random(351)
        for _ in range(40):
            program, inputs, grains = some_case(chance, words=WORDS)
            upper, lower = upper_paper(program, inputs, grains), lower_paper(program, inputs, grains)
            # Lines made steeper, and lifted until they are above all that comes next, one past behind the other.
            for paper, side in [(upper, 1), (lower, -1)]:
                for past in sorted(paper, key=len, reverse=True):
                    height, slope = paper[past]
                    slope = fraction_of(number(slope) + Fraction(chance.randint(-2, 2), 3))
                    gaps = [
                        side * (plain_bound(program, inputs, paper, past + (fraction_of(value),))
                                - number(slope) * value)
                        for value in plain_next(program, inputs, grains, past)
                    ]
                    paper[past] = (fraction_of(side * max(gaps)), slope)
            self.assertIs(is_upper_paper(program, inputs, grains, upper), True)
            self.assertIs(is_lower_paper(program, inputs, grains, lower), True)
            high, low = number(paper_bound(program, inputs, upper)), number(paper_bound(program, inputs, lower))
            for _ in range(5):
                mean = plain_mean(program, inputs, some_grain_rule(chance, program, inputs, grains))
                self.assertTrue(low <= mean <= high)

    def test_all_rules_of_two_roundings(self):
        _, _, rules = all_rules(LATER, INPUTS, GRAINS)
        means = [plain_mean(LATER, INPUTS, rule) for rule in rules]
        upper, lower = self.check(LATER, INPUTS, GRAINS)
        self.assertEqual(number(paper_bound(LATER, INPUTS, upper)), max(means))
        self.assertEqual(number(paper_bound(LATER, INPUTS, lower)), min(means))

    def test_without_roundings(self):
        self.assertEqual([upper_paper(NONE, (whole(3),), ()), lower_paper(NONE, (whole(3),), ())], [{}, {}])
        self.assertEqual(paper_bound(NONE, (whole(3),), {}), whole(9))
        for told in [is_upper_paper, is_lower_paper]:
            self.assertIs(told(NONE, (ONE,), (), {}), True)
            self.assertIs(told(NONE, (ONE,), (), {(): (ONE, ZERO)}), False)
            self.assertIs(told(NONE, (ONE,), (), ()), False)

    def test_without_inputs(self):
        program = (0, (("told", HALF), ("round", 0), ("times", 1, 1)))
        self.assertEqual(upper_paper(program, (), WIDE), {(): (whole(2), ONE)})
        self.assertEqual(lower_paper(program, (), WIDE), {(): (ZERO, ONE)})

    def test_dicts_are_the_callers(self):
        for told in [upper_paper, lower_paper]:
            found = told(LATER, INPUTS, GRAINS)
            kept = dict(found)
            found[()] = None
            self.assertEqual(told(LATER, INPUTS, GRAINS), kept)


class Telling(unittest.TestCase):
    def both(self, thing, program=SINGLE, inputs=(HALF,), grains=WIDE):
        return (is_upper_paper(program, inputs, grains, thing), is_lower_paper(program, inputs, grains, thing))

    def test_just_below_and_just_above_at_one_past(self):
        self.assertEqual(self.both({(): (whole(2), ONE)}), (True, False))
        self.assertEqual(self.both({(): (fraction_of(2 + Fraction(1, 10 ** 20)), ONE)}), (True, False))
        self.assertEqual(self.both({(): (fraction_of(2 - Fraction(1, 10 ** 20)), ONE)}), (False, False))
        self.assertEqual(self.both({(): (ZERO, ONE)}), (False, True))
        self.assertEqual(self.both({(): ((1, 10 ** 20), ONE)}), (False, False))
        self.assertEqual(self.both({(): ((-1, 10 ** 20), ONE)}), (False, True))

    def test_both_at_once(self):
        program = (1, (("input", 0), ("round", 0), ("sum", 1, 0)))
        self.assertEqual(self.both({(): (HALF, ONE)}, program), (True, True))
        self.assertEqual(self.both({(): (HALF, (2, 1))}, program), (False, False))

    def test_papers_for_other_inputs(self):
        paper = upper_paper(SINGLE, (HALF,), WIDE)
        self.assertEqual(self.both(paper, inputs=(ONE,)), (False, False))
        self.assertEqual(self.both(upper_paper(SINGLE, (ONE,), WIDE), inputs=(HALF,)), (True, False))

    def test_pasts_too_few_and_too_many(self):
        paper = upper_paper(LATER, INPUTS, GRAINS)
        self.assertEqual(list(paper), [(), (ZERO,), (ONE,)])
        high = {past: (whole(1000), ZERO) for past in paper}
        # Constant lines that rise ahead of all that is behind.
        high[()] = (whole(1001), ZERO)
        low = {past: (fraction_of(-number(height)), slope) for past, (height, slope) in high.items()}
        self.assertEqual([self.both(one, LATER, INPUTS, GRAINS) for one in [high, low]], [(True, False), (False, True)])
        full = plain_pasts(LATER, INPUTS, GRAINS, 2)[0]
        for told, one in [(0, high), (1, low)]:
            for past in list(one):
                fewer = {key: one[key] for key in one if key != past}
                self.assertIs(self.both(fewer, LATER, INPUTS, GRAINS)[told], False)
                # As many keys, but another one.
                self.assertIs(self.both({**fewer, (whole(2),): one[(ONE,)]}, LATER, INPUTS, GRAINS)[told], False)
            for key in [full, (whole(2),), (HALF,), (ZERO, ZERO, ZERO), None, 0, "", (0, 1), (None,), ((2, 2),)]:
                self.assertIs(self.both({**one, key: one[()]}, LATER, INPUTS, GRAINS)[told], False, key)
            odd = {key if key != (ONE,) else ((True, 1),): line for key, line in one.items()}
            self.assertEqual(list(odd), list(one))
            self.assertIs(self.both(odd, LATER, INPUTS, GRAINS)[told], False)

    def test_order_of_the_keys_does_not_matter(self):
        paper = upper_paper(LATER, INPUTS, GRAINS)
        backwards = {past: paper[past] for past in reversed(list(paper))}
        order = list(backwards)
        self.assertIs(is_upper_paper(LATER, INPUTS, GRAINS, backwards), True)
        self.assertEqual(list(backwards), order)
        self.assertEqual(paper_bound(LATER, INPUTS, backwards), greatest_mean(LATER, INPUTS, GRAINS))

    def test_heights_and_slopes_that_are_no_fractions(self):
        for line in [
            (2, 1), (whole(2), 1), (whole(2), (2, 2)), ((4, 2), ONE), ([2, 1], ONE), [whole(2), ONE],
            (whole(2), (True, 1)),
            ((2, True), ONE), (whole(2), ONE, ZERO), (whole(2),), (), None, whole(2), ((2, -1), ONE), ((2, 0), ONE),
        ]:
            self.assertEqual(self.both({(): line}), (False, False), line)

    def test_any_value(self):
        for other in exchanged((whole(3), ZERO), odd_values()):
            right = type(other) is tuple and len(other) == 2 and all(is_fraction(part) for part in other)
            gaps = [line_at(other, value) - value ** 2 for value in [-1, 0, 1, 2]] if right else []
            meant = (right and min(gaps) >= 0, right and max(gaps) <= 0)
            self.assertEqual(self.both({(): other}), meant, other)
        for thing in odd_values():
            self.assertEqual(self.both(thing), (False, False), thing)

    def test_bounds(self):
        self.assertEqual(paper_bound(SINGLE, ((1, 3),), {(): (whole(2), (3, 2))}), (5, 2))
        self.assertEqual(paper_bound(LATER, INPUTS, {(): (whole(2), whole(-2)), (ZERO,): (ONE, ONE)}), ONE)
        # Programs that only choose.
        chosen = (1, (("input", 0), ("round", 0), ("choice", 1, 0, 1)))
        paper = upper_paper(chosen, ((-1, 2),), ((ONE, ONE),))
        self.assertEqual(paper_bound(chosen, ((-1, 2),), paper), fraction_of(Fraction(-3, 4)))
        self.assertEqual(exact_result(chosen, ((-1, 2),)), (-1, 2))
        self.assertEqual(least_mean(chosen, ((-1, 2),), ((ONE, ONE),)), fraction_of(Fraction(-3, 4)))
