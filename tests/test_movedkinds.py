import random
import unittest

from chancegrain.errors import NotMild, NotPlain, TooMany
from chancegrain.kinds import kind_of
from chancegrain.movedkinds import kinds_behind, least_by_moves, squares_behind
from chancegrain.moves import moved, moves_of
from chancegrain.spread import greatest_square
from tests.helpers import fraction_of, number, roundings_many, some_inputs, some_program, whole
from tests.movehelpers import all_behind, plain_moved, plain_moves

HALF, ONE, ZERO = (1, 2), (1, 1), (0, 1)
FIRST = ("input", 0)
ALL = ("drop", "join", "over", "put", "scale")
KINDS = ["mild", "right", "own", "even", "none"]
WORDS = ["sum", "less", "times", "round", "round"]
TWICE = (1, (FIRST, ("round", 0), ("round", 0), ("times", 1, 2)))
SQUARE = (1, (FIRST, ("round", 0), ("times", 1, 1)))
CHOOSING = (1, SQUARE[1] + (("choice", 0, 1, 2),))
NONE = (0, (("told", HALF),))
# The words, and how many moves at most: by them just so many unlike programs come of the program.
JUST_300 = ((0, (
    ("told", HALF), ("sum", 0, 0), ("sum", 0, 0), ("sum", 2, 2), ("round", 1), ("times", 0, 4), ("round", 3),
    ("round", 2), ("round", 1),
)), ("drop", "join", "over", "put"), 3)
JUST_301 = ((0, (
    ("told", HALF), ("sum", 0, 0), ("round", 1), ("sum", 2, 0), ("round", 1), ("times", 1, 0), ("times", 4, 0),
    ("times", 1, 4), ("round", 5),
)), ALL, 3)


def plain_square(program, inputs, width):
    """The greatest square, None if the program is not mild."""
    try:
        return greatest_square(program, inputs, (width,) * roundings_many(program))
    except NotMild:
        return None


def plain_least(program, inputs, width, words, most):
    found = [
        (number(square), len(way), way)
        for one, way in all_behind(program, words, most).items()
        for square in [plain_square(one, inputs, width)] if square is not None
    ]
    if not found:
        return None
    square, _, way = min(found)
    return (fraction_of(square), way)


def error_program(chance):
    """A program of sums and products of errors, some of them roundings of sums or of scaled inputs."""
    steps = [FIRST, ("input", 1), ("told", HALF), ("sum", 0, 1), ("times", 2, 1)]
    errors = []
    for _ in range(chance.randint(1, 3)):
        argument = chance.choice([0, 1, 3, 4])
        steps += [("round", argument), ("less", len(steps), argument)]
        errors.append(len(steps) - 1)
    for _ in range(chance.randint(1, 4)):
        steps.append((chance.choice(["times", "times", "sum"]), chance.choice(errors), chance.choice(errors)))
        errors.append(len(steps) - 1)
    return (2, tuple(steps))


class Kinds(unittest.TestCase):
    def test_each_kind_behind_moves(self):
        self.assertEqual(kinds_behind(TWICE), {
            ("drop", 0): "mild", ("drop", 1): "mild", ("join", 0, 1): "none", ("put", 3): "mild",
        })
        errors = (FIRST, ("round", 0), ("less", 1, 0))
        cube = (1, errors + (("times", 2, 2), ("times", 3, 2)))
        self.assertEqual(kinds_behind(cube)[("put", 4)], "even")
        self.assertEqual(kinds_behind(cube)[("drop", 0)], "mild")
        behind = (1, errors + (("round", 0), ("less", 3, 0), ("times", 2, 2), ("times", 5, 4)))
        self.assertEqual([kind_of(behind), kinds_behind(behind)[("put", 2)]], ["right", "right"])
        self.assertEqual(kinds_behind(NONE), {})

    def test_drawn_programs(self):
        chance = random.Random(410)
        seen = {}
        for at in range(300):
            program = some_program(chance, 2, 8, WORDS) if at % 2 else error_program(chance)
            found = kinds_behind(program)
            self.assertEqual(list(found), plain_moves(program))
            now = KINDS.index(kind_of(program))
            for move, kind in found.items():
                self.assertEqual(kind, kind_of(plain_moved(program, move)))
                if move[0] in ("drop", "over", "scale"):
                    self.assertLessEqual(KINDS.index(kind), now, (program, move))
                seen[kind] = True
        self.assertEqual(set(seen), set(KINDS))

    def test_dicts_are_the_callers(self):
        found = kinds_behind(TWICE)
        found.clear()
        self.assertEqual(len(kinds_behind(TWICE)), 4)


class Squares(unittest.TestCase):
    def test_moves_behind_which_it_is_not_mild_are_left_out(self):
        self.assertEqual(list(squares_behind(TWICE, (ONE,), ONE)), [("drop", 0), ("drop", 1), ("put", 3)])
        self.assertEqual(squares_behind(SQUARE, (whole(3),), ONE), {("drop", 0): ZERO})
        self.assertEqual(squares_behind(NONE, (), ONE), {})

    def test_width_0(self):
        self.assertEqual(set(squares_behind(TWICE, (ONE,), ZERO).values()), {ZERO})

    def test_drawn_programs(self):
        chance = random.Random(411)
        for _ in range(150):
            program, inputs = some_program(chance, 2, 8, WORDS), some_inputs(chance, 2)
            width = fraction_of(number(some_inputs(chance, 1)[0]) ** 2)
            found = squares_behind(program, inputs, width)
            meant = {move: plain_square(plain_moved(program, move), inputs, width) for move in plain_moves(program)}
            self.assertEqual(found, {move: square for move, square in meant.items() if square is not None})
            self.assertEqual(list(found), sorted(found))


class Least(unittest.TestCase):
    def test_programs_of_each_word(self):
        summed = (2, (FIRST, ("input", 1), ("sum", 0, 1), ("round", 2)))
        halved = (1, (FIRST, ("told", HALF), ("times", 0, 1), ("round", 2)))
        same = (1, (FIRST, ("round", 0), ("round", 0), ("less", 1, 2)))
        two = (whole(3), whole(5))
        for program, inputs, words, meant in [
            (summed, two, ("drop",), (ZERO, (("drop", 0),))), (summed, two, ("over",), (ONE, ())),
            (halved, two[:1], ("scale",), ((1, 4), (("scale", 0),))),
            (same, two[:1], ("join",), (ZERO, (("join", 0, 1),))),
            (SQUARE, two[:1], ("put",), None), (SQUARE, two[:1], ("drop",), (ZERO, (("drop", 0),))),
            (TWICE, two[:1], ("join",), (whole(19), ())), (TWICE, two[:1], ("put",), (whole(19), ())),
        ]:
            self.assertEqual(least_by_moves(program, inputs, ONE, words, 2), meant, (program, words))
            self.assertEqual(plain_least(program, inputs, ONE, words, 2), meant)

    def test_no_words_and_no_moves(self):
        for words, most in [((), 3), (ALL, 0), ((), 0)]:
            self.assertEqual(least_by_moves(TWICE, (whole(3),), ONE, words, most), (whole(19), ()))
            self.assertIsNone(least_by_moves(SQUARE, (whole(3),), ONE, words, most))
        self.assertEqual(least_by_moves(NONE, (), ONE, ALL, 3), (ZERO, ()))

    def test_as_few_moves_as_can_be_and_the_least_tuple(self):
        # With width 0 all squares are the same: no move is the fewest.
        self.assertEqual(least_by_moves(TWICE, (whole(3),), ZERO, ALL, 3), (ZERO, ()))
        # Behind either drop there is the same square: of as many moves the least one is told.
        self.assertEqual(least_by_moves(TWICE, (whole(3),), ONE, ("drop",), 1), (whole(9), (("drop", 0),)))
        self.assertEqual(least_by_moves(TWICE, (whole(3),), ONE, ("drop",), 2), (ZERO, (("drop", 0), ("drop", 0))))
        self.assertEqual(least_by_moves(TWICE, (whole(3),), ONE, ("drop",), 3), (ZERO, (("drop", 0), ("drop", 0))))
        apart = (1, (FIRST, ("round", 0), ("round", 0), ("round", 0), ("sum", 1, 2), ("sum", 4, 3)))
        self.assertEqual(least_by_moves(apart, (ZERO,), ONE, ("drop", "join"), 2), (ONE, (("drop", 0), ("drop", 0))))

    def test_drawn_programs(self):
        chance = random.Random(412)
        seen = 0
        while seen < 60:
            program, inputs = some_program(chance, 2, 7, WORDS), some_inputs(chance, 2)
            words = tuple(sorted(chance.sample(ALL, chance.randint(1, 5))))
            most, width = chance.randint(0, 3), chance.choice([ZERO, HALF, whole(2)])
            if len(all_behind(program, words, min(most, 2))) > 60:
                continue
            ways = all_behind(program, words, most)
            if len(ways) > 300:
                with self.assertRaises(TooMany):
                    least_by_moves(program, inputs, width, words, most)
                continue
            found = least_by_moves(program, inputs, width, words, most)
            self.assertEqual(found, plain_least(program, inputs, width, words, most))
            if found is not None and found[1]:
                seen += 1
                one = program
                for move in found[1]:
                    self.assertIn(move, moves_of(one))
                    one = moved(one, move)
                self.assertEqual(plain_square(one, inputs, width), found[0])

    def test_300_unlike_programs_and_301(self):
        for (program, words, most), many in [(JUST_300, 300), (JUST_301, 301)]:
            self.assertEqual(len(all_behind(program, words, most)), many)
        program, words, most = JUST_300
        self.assertEqual(least_by_moves(program, (), ONE, words, most), plain_least(program, (), ONE, words, most))
        program, words, most = JUST_301
        with self.assertRaises(TooMany) as caught:
            least_by_moves(program, (), ONE, words, most)
        self.assertEqual(caught.exception.most, 300)
        least_by_moves(program, (), ONE, words, most - 1)

    def test_programs_that_are_not_mild_count_too(self):
        program = (1, (
            FIRST, ("told", (3, 2)), ("times", 0, 1), ("round", 2), ("less", 3, 3), ("times", 4, 4), ("times", 3, 5),
            ("times", 2, 6), ("sum", 3, 0), ("round", 8), ("less", 5, 2), ("less", 6, 5),
        ))
        kinds = [kind_of(one) for one in all_behind(program, ALL, 3)]
        self.assertEqual([len(kinds), kinds.count("mild")], [357, 278])
        with self.assertRaises(TooMany):
            least_by_moves(program, (ONE,), ONE, ALL, 3)

    def test_long_polynomials(self):
        program = (3, (
            FIRST, ("input", 1), ("input", 2), ("told", (1, 3)), ("sum", 0, 1), ("sum", 4, 2), ("sum", 5, 3),
            ("round", 6), ("times", 7, 7), ("times", 8, 8), ("times", 9, 9),
        ))
        self.assertIsNone(least_by_moves(program, (ONE,) * 3, ONE, ("join", "put", "scale"), 3))
        self.assertEqual(least_by_moves(program, (ONE,) * 3, ONE, ("drop", "put"), 2), (ZERO, (("drop", 0),)))

    def test_squares_that_fall_away_at_some_numbers(self):
        # The square of an error times another number: not mild, whatever inputs and errors make it 0.
        for value in range(-3, 14):
            errors = (FIRST, ("round", 0), ("less", 1, 0), ("times", 2, 2), ("told", whole(value)))
            by_input = (1, errors + (("less", 0, 4), ("times", 3, 5)))
            by_error = (1, errors + (("round", 0), ("less", 5, 0), ("less", 6, 4), ("times", 3, 7)))
            for program in [by_input, by_error]:
                self.assertIsNone(least_by_moves(program, (ONE,), ONE, (), 0))
                self.assertEqual(squares_behind(program, (ONE,), ONE), {
                    move: square for move in plain_moves(program)
                    for square in [plain_square(plain_moved(program, move), (ONE,), ONE)] if square is not None
                })

    def test_squares_that_fall_away(self):
        # Mild, though a product could make a square.
        steps = SQUARE[1] + (("less", 2, 2), ("sum", 3, 1))
        self.assertEqual(kind_of((1, steps)), "mild")
        self.assertEqual(least_by_moves((1, steps), (ONE,), HALF, (), 0), ((1, 4), ()))


class Refused(unittest.TestCase):
    def test_not_plain_comes_first(self):
        many = (1, CHOOSING[1] + (("round", 0),) * 4 + (("sum", 0, 3),) * 8)
        for program in [CHOOSING, many]:
            for told, more in [
                (kinds_behind, ()), (squares_behind, ((ONE,), ONE)), (least_by_moves, ((ONE,), ONE, ALL, 3)),
                (least_by_moves, ((ONE,), ONE, (), 0)),
            ]:
                with self.assertRaises(NotPlain) as caught:
                    told(program, *more)
                self.assertEqual(caught.exception.step, 3)
