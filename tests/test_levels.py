import random
import unittest
from itertools import product

from chancegrain.errors import NotByLevels
from chancegrain.levels import levels_of, members_many, weights_of
from chancegrain.loops import exact_round, led_goal
from tests.loophelpers import ONE, some_goal, some_loop

I3 = (("input", 0), ("input", 1), ("input", 2))


def variable(many, at):
    return tuple([int(place == at) for place in range(many)])


def are_levels(exact, levels):
    for state, one in enumerate(exact):
        for powers, _ in one:
            named = [at for at, power in enumerate(powers) if power > 0]
            alone = sum(powers) == 1
            if any(levels[at] > levels[state] or (levels[at] == levels[state] and not alone) for at in named):
                return False
    return True


def plain_levels(loop):
    """All levels below the number of states, by going through them."""
    exact = exact_round(loop)
    return [levels for levels in product(range(loop[0]), repeat=loop[0]) if are_levels(exact, levels)]


def hangs(exact):
    """The pairs of states of which one hangs on the other, and of those strictly."""
    all_pairs, strict = set(), set()
    for state, one in enumerate(exact):
        for powers, _ in one:
            for at, power in enumerate(powers):
                if power > 0:
                    all_pairs.add((state, at))
                    if sum(powers) > 1:
                        strict.add((state, at))
    return all_pairs, strict


def plain_state(loop):
    """The least state with a way to itself that is strict at least once, by going all ways."""
    pairs, strict = hangs(exact_round(loop))
    for start in range(loop[0]):
        reached, former = {(start, False)}, None
        while reached != former:
            former = set(reached)
            for state, once in former:
                for one, other in pairs:
                    if one == state:
                        reached.add((other, once or (one, other) in strict))
        if (start, True) in reached:
            return start
    return None


def weight(powers, weights):
    return sum(power * one for power, one in zip(powers, weights))


def are_weights(exact, weights):
    return all(weight(powers, weights) <= weights[state] for state, one in enumerate(exact) for powers, _ in one)


class Levels(unittest.TestCase):
    def refused(self, loop, goal=()):
        found = []
        for told, more in [(levels_of, ()), (weights_of, ()), (members_many, (goal,))]:
            with self.assertRaises(NotByLevels) as caught:
                told(loop, *more)
            found.append(caught.exception.state)
        self.assertEqual(len(set(found)), 1)
        return found[0]

    def test_not_strictly_on_itself(self):
        # x becomes x + x; y becomes x - y.
        loop = (2, I3[:2] + (("sum", 0, 0), ("less", 0, 1)), (2, 3))
        self.assertEqual([levels_of(loop), weights_of(loop)], [(0, 0), (1, 1)])

    def test_strictly_on_itself(self):
        self.assertEqual(self.refused((1, (("input", 0), ("times", 0, 0)), (1,))), 0)
        product_of_both = (2, I3[:2] + (("times", 0, 1),), (0, 2))
        self.assertEqual(self.refused(product_of_both), 1)
        plus_a_square = (2, I3[:2] + (("times", 1, 1), ("sum", 1, 2)), (0, 3))
        self.assertEqual(self.refused(plus_a_square, (((1, 0), ONE),)), 1)

    def test_a_way_over_others(self):
        # x becomes y, y becomes z, z becomes x * x.
        loop = (3, I3 + (("times", 0, 0),), (1, 2, 3))
        self.assertEqual(self.refused(loop), 0)
        # x becomes x, y becomes z * x, z becomes y: y and z are on the way.
        loop = (3, I3 + (("times", 2, 0),), (0, 3, 1))
        self.assertEqual(self.refused(loop), 1)

    def test_a_way_on_which_states_come_again(self):
        # x becomes y; y becomes x + z * z; z becomes y. From x the strict way comes over y twice.
        loop = (3, I3 + (("times", 2, 2), ("sum", 0, 3)), (1, 4, 1))
        self.assertEqual(self.refused(loop), 0)

    def test_the_least_of_several(self):
        # x hangs on what hangs on itself, but is on no way to itself.
        loop = (3, I3 + (("times", 1, 1), ("times", 2, 2)), (1, 3, 4))
        self.assertEqual(self.refused(loop), 1)

    def test_strictly_and_not_strictly(self):
        # x becomes x, y becomes y + x + x * y.
        loop = (2, I3[:2] + (("times", 0, 1), ("sum", 0, 2), ("sum", 1, 3)), (0, 4))
        self.assertEqual(self.refused(loop), 1)
        loop = (2, I3[:2] + (("times", 0, 0), ("sum", 0, 2), ("sum", 1, 3)), (0, 4))
        self.assertEqual([levels_of(loop), weights_of(loop)], [(0, 1), (1, 2)])

    def test_members_that_cancel_do_not_count(self):
        loop = (1, (("input", 0), ("times", 0, 0), ("less", 1, 1), ("sum", 0, 2)), (3,))
        self.assertEqual([levels_of(loop), weights_of(loop)], [(0,), (1,)])

    def test_chains(self):
        # z becomes x * x, y becomes z * z * z, x becomes x + 1.
        steps = I3 + (("told", ONE), ("sum", 0, 3), ("times", 0, 0), ("times", 2, 2), ("times", 6, 2))
        loop = (3, steps, (4, 7, 5))
        self.assertEqual([levels_of(loop), weights_of(loop)], [(0, 2, 1), (1, 6, 2)])
        # What hangs on states of a level not strictly has this level, and weight, too.
        also = (3, I3 + (("told", ONE), ("times", 0, 0), ("sum", 1, 2)), (0, 4, 5))
        self.assertEqual([levels_of(also), weights_of(also)], [(0, 1, 1), (1, 2, 2)])

    def test_told_states(self):
        loop = (2, I3[:2] + (("told", ONE), ("told", (0, 1))), (2, 3))
        self.assertEqual([levels_of(loop), weights_of(loop)], [(0, 0), (1, 1)])

    def test_drawn_loops(self):
        chance = random.Random(310)
        seen = [0, 0]
        for _ in range(250):
            loop = some_loop(chance, chance.randint(1, 3), 8, 2, ["sum", "less", "times", "times"])
            meant = plain_levels(loop)
            state = plain_state(loop)
            self.assertIs(state is None, meant != [])
            seen[state is None] += 1
            if state is not None:
                self.assertEqual(self.refused(loop), state)
                continue
            levels = levels_of(loop)
            self.assertIn(levels, meant)
            self.assertTrue(all(one <= other for found in meant for one, other in zip(levels, found)))
            self.check_weights(loop)
        self.assertGreater(min(seen), 30)

    def check_weights(self, loop):
        exact, weights = exact_round(loop), weights_of(loop)
        self.assertIs(are_weights(exact, weights), True)
        self.assertGreaterEqual(min(weights), 1)
        if max(weights) <= 8:
            found = [told for told in product(range(1, 9), repeat=loop[0]) if are_weights(exact, told)]
            self.assertTrue(all(one <= other for told in found for one, other in zip(weights, told)))


class Members(unittest.TestCase):
    CHAIN = (2, I3[:2] + (("told", ONE), ("sum", 0, 2), ("times", 0, 0), ("sum", 1, 4)), (3, 5))

    def test_weights_and_many(self):
        self.assertEqual([levels_of(self.CHAIN), weights_of(self.CHAIN)], [(0, 1), (1, 2)])
        for goal, many in [
            ((), 0), ((((0, 0), ONE),), 1), ((((1, 0), ONE),), 2), ((((0, 1), ONE),), 4), ((((2, 0), ONE),), 4),
            ((((1, 1), ONE),), 6), ((((0, 1), ONE), ((3, 0), ONE)), 6), ((((3, 3), ONE),), 30),
        ]:
            self.assertEqual(members_many(self.CHAIN, goal), many, goal)

    def test_against_all_tuples(self):
        chance = random.Random(311)
        seen = 0
        while seen < 60:
            many = chance.randint(1, 3)
            loop, goal = some_loop(chance, many, 8), some_goal(chance, many, 3, 2)
            if plain_state(loop) is not None:
                continue
            weights = weights_of(loop)
            room = max(weight(powers, weights) for powers, _ in goal)
            if room > 20:
                continue
            seen += 1
            meant = [powers for powers in product(range(room + 1), repeat=many) if weight(powers, weights) <= room]
            self.assertEqual(members_many(loop, goal), len(meant))
            # No led goal has a member of another one.
            for count in range(4):
                self.assertTrue(all(powers in meant for powers, _ in led_goal(loop, goal, count)))
