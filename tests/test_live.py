import random
import unittest

from chancegrain.errors import Broken, ChanceError, NotMild, NotPlain, Nothing, Wrong
from chancegrain.forms import is_program, is_step
from chancegrain.kinds import is_mild, kind_of
from chancegrain.live import Live
from chancegrain.right import is_right
from chancegrain.spread import greatest_square
from tests.helpers import exchanged, odd_values, roundings_many, some_inputs, some_program, whole

HALF, ONE, ZERO = (1, 2), (1, 1), (0, 1)
FIRST = ("input", 0)
START = (1, (FIRST, ("round", 0)))
RIGHT, MILD, OWN, EVEN = ("right",), ("kind", "mild"), ("kind", "own"), ("kind", "even")
KINDS = ["mild", "right", "own", "even"]
SQUARED = ("square", (whole(3),), ONE, ONE)
ERRORS = (FIRST, ("round", 0), ("less", 1, 0))
# The first ones of their kinds: squares of an error of an even power, and the like.
OF_KIND = {
    "mild": START,
    "right": (1, ERRORS + (("round", 0), ("less", 3, 0), ("times", 2, 2), ("times", 5, 4))),
    "own": (1, ERRORS + (("round", 0), ("less", 3, 0), ("times", 4, 4), ("times", 2, 5))),
    "even": (1, ERRORS + (("times", 2, 2), ("times", 3, 2))),
    "none": (1, ERRORS + (("times", 2, 2),)),
    "choice": (1, ERRORS + (("choice", 0, 1, 2),)),
}


def plain_kept(program, duty):
    if any(step[0] == "choice" for step in program[1]):
        return False
    if duty[0] == "right":
        return is_right(program)
    if duty[0] == "kind":
        return kind_of(program) in KINDS[:KINDS.index(duty[1]) + 1]
    _, inputs, width, most = duty
    if len(inputs) != program[0] or not is_mild(program):
        return False
    square = greatest_square(program, inputs, (width,) * roundings_many(program))
    return square[0] * most[1] <= most[0] * square[1]


def history(live):
    """The programs and duties that can be gone back to, and on to, by a twin."""
    rows = []
    for word in ["back", "again"]:
        other = live.twin()
        row = []
        while True:
            row.append((other.program_now(), other.duties()))
            try:
                getattr(other, word)()
            except Nothing:
                break
        rows.append(row)
    return rows


class Programs(unittest.TestCase):
    def test_start(self):
        for kind, program in OF_KIND.items():
            live = Live(program)
            self.assertEqual((live.program_now(), live.duties(), live.kind()), (program, [], kind))
            self.assertEqual(history(live), [[(program, [])]] * 2)

    def test_any_value(self):
        for thing in exchanged((1, (FIRST, ("told", (1, 2)), ("sum", 0, 1))), odd_values() + [Live(START)]):
            if is_program(thing):
                self.assertEqual(Live(thing).program_now(), thing)
            else:
                with self.assertRaises(Wrong) as caught:
                    Live(thing)
                self.assertEqual(caught.exception.place, 0)

    def test_steps(self):
        live = Live(START)
        for step in [("told", (-1, 2)), ("sum", 0, 1), ("choice", 0, 1, 3), ("round", 4), FIRST]:
            self.assertIsNone(live.put(step))
            self.assertEqual(live.program_now()[1][-1], step)
        self.assertEqual(live.kind(), "choice")
        self.assertIsNone(live.change(2, ("less", 1, 0)))
        self.assertEqual(live.program_now()[1][:4], START[1] + (("less", 1, 0), ("sum", 0, 1)))
        self.assertIsNone(live.change(0, ("told", ONE)))
        self.assertEqual([live.take(), live.take()], [FIRST, ("round", 4)])
        self.assertEqual(live.kind(), "choice")
        self.assertEqual([live.take(), live.take(), live.take(), live.take()],
                         [("choice", 0, 1, 3), ("sum", 0, 1), ("less", 1, 0), ("round", 0)])
        self.assertRaises(Nothing, live.take)
        self.assertEqual(live.program_now(), (1, (("told", ONE),)))

    def test_steps_that_do_not_stand_there(self):
        live = Live((1, START[1] + (("sum", 0, 1),)))
        before = (live.program_now(), history(live))
        for step in exchanged(("sum", 0, 2), odd_values() + [3, "less"]) + [
            ("input", 1), ("input", -1), ("told", 1), ("told", (2, 2)), ("sum", 0, 3), ("round", 3),
            ("choice", 0, 1, 3),
            ("sum", 0), ("sum", 0, 1, 2), ("sum", 0, True), ["sum", 0, 1], ("word", 0, 1), live,
        ]:
            if not is_step(1, 3, step):
                with self.assertRaises(Wrong) as caught:
                    live.put(step)
                self.assertEqual(caught.exception.place, 0)
            if not is_step(1, 1, step):
                with self.assertRaises(Wrong) as caught:
                    live.change(1, step)
                self.assertEqual(caught.exception.place, 1, step)
        self.assertEqual((live.program_now(), history(live)), before)
        # What names only steps ahead of its place stands there.
        live.change(1, ("sum", 0, 0))
        self.assertRaises(Wrong, live.change, 1, ("sum", 0, 1))
        self.assertRaises(Wrong, live.change, 0, ("round", 0))

    def test_places(self):
        live = Live(START)
        live.owe(RIGHT)
        for index in odd_values() + [-1, 2, 10 ** 30, live]:
            if index in (0, 1) and type(index) is int:
                continue
            # The first one that is not as described is told, whatever the step is.
            for step in [FIRST, None, ("sum", 5, 5), ("times", 0, 0)]:
                with self.assertRaises(Wrong) as caught:
                    live.change(index, step)
                self.assertEqual(caught.exception.place, 0)
        for index in odd_values() + [-1, 1, live]:
            if index == 0 and type(index) is int:
                continue
            with self.assertRaises(Wrong) as caught:
                live.free(index)
            self.assertEqual(caught.exception.place, 0)
        self.assertEqual(live.free(0), RIGHT)
        self.assertRaises(Wrong, live.free, 0)


class Duties(unittest.TestCase):
    def test_any_value(self):
        live = Live(START)
        good = [RIGHT, MILD, ("kind", "right"), OWN, EVEN, SQUARED, ("square", (), ONE, ONE),
                ("square", (ONE, HALF), ZERO, ZERO)]
        for duty in good:
            self.assertIs(self.owed(live, duty), True, duty)
        wrong = [
            ("right", 1), "right", ["right"], (RIGHT,), (), ("kind",), ("kind", "none"), ("kind", "choice"),
            ("kind", ["mild"]),
            ("kind", "mild", "own"), ("kind", None), ("kind", live), ("square",), ("square", (ONE,), ONE), ("duty",),
            (live,),
            ("square", (ONE,), (-1, 2), ONE), ("square", (ONE,), ONE, (-1, 2)), ("square", [ONE], ONE, ONE), ("Right",),
            ("square", (ONE,), ONE, ONE, ONE), ("square", ONE, ONE, ONE), ("square", (1,), ONE, ONE),
            ("square", (ONE,), 1, ONE),
            ("square", ((True, 1),), ONE, ONE), ("square", (ONE,), (2, 2), ONE), ("square", (ONE,), ONE, (1, True)),
            live,
        ] + odd_values()
        for duty in wrong:
            self.assertIs(self.owed(live, duty), False, duty)
        for duty in exchanged(SQUARED, odd_values()) + exchanged(MILD, odd_values()):
            meant = type(duty) is tuple and duty[:1] == ("square",) and len(duty) == 4 and type(duty[1]) is tuple
            told = self.owed(live, duty)
            self.assertFalse(told and not meant and duty != MILD, duty)

    def owed(self, live, duty):
        """Whether it is a duty, kept or not."""
        try:
            live.twin().owe(duty)
        except Wrong as error:
            self.assertEqual(error.place, 0)
            return False
        except Broken as error:
            self.assertIs(error.duty, duty)
        return True

    def test_kept_or_broken(self):
        order = KINDS + ["none", "choice"]
        for kind, program in OF_KIND.items():
            live = Live(program)
            self.assertEqual(live.kind(), kind)
            for word in KINDS:
                self.check(live, ("kind", word), order.index(kind) <= KINDS.index(word))
            self.check(live, RIGHT, kind in ("mild", "right"))
            for most, kept in [(whole(1), True), ((999, 1000), False), (whole(5), True), (ZERO, False)]:
                self.check(live, ("square", (whole(3),), ONE, most), kept and kind == "mild")
            self.check(live, ("square", (whole(3),), ZERO, ZERO), kind == "mild")
            self.check(live, ("square", (), ONE, whole(100)), False)
            self.check(live, ("square", (ONE, ONE), ONE, whole(100)), False)

    def check(self, live, duty, kept):
        self.assertIs(plain_kept(live.program_now(), duty), kept)
        before = history(live)
        if kept:
            self.assertIsNone(live.owe(duty))
            self.assertEqual(live.duties()[-1], duty)
            live.free(len(live.duties()) - 1)
        else:
            with self.assertRaises(Broken) as caught:
                live.owe(duty)
            self.assertEqual(caught.exception.duty, duty)
            self.assertEqual(history(live), before)

    def test_widths_of_all_roundings(self):
        live = Live((1, (FIRST, ("round", 0), ("round", 0), ("times", 1, 2))))
        self.check(live, ("square", (whole(3),), ONE, whole(19)), True)
        self.check(live, ("square", (whole(3),), ONE, (1899, 100)), False)
        self.check(live, ("square", (whole(3),), HALF, (73, 16)), True)
        self.check(live, ("square", (whole(3),), HALF, (9, 2)), False)

    def test_the_first_of_several_is_told(self):
        for order in [[RIGHT, MILD, SQUARED], [SQUARED, RIGHT, MILD], [MILD, EVEN, RIGHT]]:
            live = Live(START)
            for duty in order:
                live.owe(duty)
            with self.assertRaises(Broken) as caught:
                live.put(("times", 1, 1))
            self.assertEqual(caught.exception.duty, order[0])
        # The last step makes it right, but no longer mild: the duties ahead of that are kept.
        steps = OF_KIND["right"][1]
        for order in [[EVEN, MILD, RIGHT, SQUARED], [EVEN, RIGHT, SQUARED, MILD], [OWN, RIGHT, MILD]]:
            live = Live((1, steps[:-1] + (("less", 0, 0),)))
            for duty in order:
                live.owe(duty)
            with self.assertRaises(Broken) as caught:
                live.change(len(steps) - 1, steps[-1])
            self.assertEqual(caught.exception.duty, [duty for duty in order if duty in (MILD, SQUARED)][0])
        live = Live(OF_KIND["right"])
        for duty in [EVEN, OWN, RIGHT]:
            live.owe(duty)
        with self.assertRaises(Broken) as caught:
            live.owe(MILD)
        self.assertEqual(caught.exception.duty, MILD)
        self.assertEqual(live.duties(), [EVEN, OWN, RIGHT])

    def test_a_duty_twice(self):
        live = Live(START)
        for _ in range(2):
            live.owe(MILD)
        self.assertEqual(live.duties(), [MILD, MILD])
        self.assertEqual(live.free(0), MILD)
        self.assertEqual(live.duties(), [MILD])
        self.assertRaises(Broken, live.put, ("times", 1, 1))
        live.free(0)
        live.put(("times", 1, 1))
        self.assertEqual(live.kind(), "none")

    def test_duties_of_a_program_that_has_choices(self):
        live = Live(OF_KIND["choice"])
        for duty in [RIGHT, MILD, EVEN, ("square", (ONE,), ONE, whole(1000))]:
            self.check(live, duty, False)
        self.assertEqual(live.kind(), "choice")
        # Once the choice is gone they may be owed, and it does not come back.
        live.take()
        live.owe(EVEN)
        with self.assertRaises(Broken) as caught:
            live.put(("choice", 0, 1, 2))
        self.assertEqual(caught.exception.duty, EVEN)

    def test_each_deed_is_refused(self):
        live = Live((1, (FIRST, ("round", 0), ("times", 1, 1), ("less", 2, 2))))
        live.owe(RIGHT)
        for deed, more in [
            (live.put, (("times", 1, 2),)), (live.change, (3, ("less", 2, 1))), (live.take, ()),
            (live.owe, (("square", (), ONE, ONE),)),
        ]:
            before = history(live)
            with self.assertRaises(Broken):
                deed(*more)
            self.assertEqual(history(live), before)
            self.assertEqual(live.program_now()[1][3:], (("less", 2, 2),))
        live.back()
        before = history(live)
        self.assertEqual(len(before[1]), 2)
        self.assertRaises(Broken, live.owe, ("square", (), ONE, ONE))
        self.assertRaises(Wrong, live.put, None)
        self.assertEqual(history(live), before)
        live.again()
        self.assertEqual(live.duties(), [RIGHT])

    def test_take_from_one_step_comes_ahead_of_duties(self):
        live = Live((1, (FIRST,)))
        live.owe(MILD)
        self.assertRaises(Nothing, live.take)

    def test_a_square_with_other_inputs(self):
        live = Live((0, (("told", HALF), ("round", 0))))
        self.check(live, ("square", (), ONE, ONE), True)
        self.check(live, SQUARED, False)
        live.owe(("square", (), ONE, ONE))
        live.put(("told", ONE))
        self.assertRaises(Broken, live.put, ("times", 1, 1))


class BackAndAgain(unittest.TestCase):
    def test_each_deed(self):
        live = Live(START)
        live.put(("sum", 1, 0))
        live.change(2, ("less", 1, 0))
        live.owe(MILD)
        live.owe(RIGHT)
        live.free(0)
        live.take()
        rows = [
            (START, []), ((1, START[1] + (("sum", 1, 0),)), []), ((1, ERRORS), []), ((1, ERRORS), [MILD]),
            ((1, ERRORS), [MILD, RIGHT]), ((1, ERRORS), [RIGHT]), (START, [RIGHT]),
        ]
        for row in reversed(rows):
            self.assertEqual((live.program_now(), live.duties()), row)
            if row != rows[0]:
                self.assertIsNone(live.back())
        self.assertRaises(Nothing, live.back)
        for row in rows:
            self.assertEqual((live.program_now(), live.duties()), row)
            if row != rows[-1]:
                self.assertIsNone(live.again())
        self.assertRaises(Nothing, live.again)

    def test_again_only_behind_back(self):
        live = Live(START)
        self.assertRaises(Nothing, live.again)
        self.assertRaises(Nothing, live.back)
        live.put(("sum", 1, 0))
        self.assertRaises(Nothing, live.again)
        live.back()
        live.put(("less", 1, 0))
        self.assertRaises(Nothing, live.again)
        live.back()
        live.owe(MILD)
        live.free(0)
        self.assertRaises(Nothing, live.again)
        live.back()
        live.back()
        live.again()
        self.assertEqual(live.duties(), [MILD])
        live.again()
        self.assertEqual(live.duties(), [])

    def test_a_deed_that_leaves_all_as_it_was_counts(self):
        live = Live(START)
        live.change(1, ("round", 0))
        live.back()
        self.assertRaises(Nothing, live.back)
        live.again()
        self.assertRaises(Nothing, live.again)

    def test_drawn_deeds(self):
        chance = random.Random(420)
        told = {"Broken": 0, "Wrong": 0, "Nothing": 0, "done": 0}
        for _ in range(60):
            program = some_program(chance, 2, 6, ["sum", "less", "times", "round"])
            live, stands, gone = Live(program), [(program, [])], []
            for _ in range(30):
                word, meant = self.deed(chance, live, stands[-1])
                program, duties = meant
                broken = [duty for duty in duties if not plain_kept(program, duty)]
                before = history(live)
                try:
                    word()
                    told["done"] += 1
                    self.assertEqual(broken, [])
                    stands.append(meant)
                    gone = []
                except Broken as error:
                    told["Broken"] += 1
                    self.assertEqual(error.duty, broken[0])
                    self.assertEqual(history(live), before)
                if chance.random() < 0.3 and len(stands) > 1:
                    live.back()
                    gone.append(stands.pop())
                if chance.random() < 0.3 and gone:
                    live.again()
                    stands.append(gone.pop())
                self.assertEqual((live.program_now(), live.duties()), stands[-1])
                self.assertEqual(history(live), [stands[::-1], [stands[-1]] + gone[::-1]])
        self.assertGreater(told["Broken"], 100)
        self.assertGreater(told["done"], 500)

    def deed(self, chance, live, now):
        """A deed, and the program and duties that it leads to."""
        (many, steps), duties = now
        word = chance.choice(["put", "change", "owe", "owe", "take", "free"])
        if word == "take" and len(steps) > 1:
            return live.take, ((many, steps[:-1]), duties)
        if word == "free" and duties:
            at = chance.randrange(len(duties))
            return lambda: live.free(at), ((many, steps), duties[:at] + duties[at + 1:])
        if word == "owe":
            duty = chance.choice([RIGHT, MILD, OWN, EVEN, ("square", some_inputs(chance, 2), HALF, whole(9))])
            return lambda: live.owe(duty), ((many, steps), duties + [duty])
        at = chance.randrange(1, len(steps)) if word == "change" and len(steps) > 1 else len(steps)
        named = [chance.randrange(at), chance.randrange(at)]
        step = chance.choice([("sum",), ("less",), ("times",), ("round",), ("choice", 0)])
        step = step + tuple(named[:1 if step[0] == "round" else 2])
        if len([one for one in steps if one[0] == "round"]) > 3 or len(steps) > 9:
            step = ("less", at - 1, at - 1)
        if at == len(steps):
            return lambda: live.put(step), ((many, steps + (step,)), duties)
        return lambda: live.change(at, step), ((many, steps[:at] + (step,) + steps[at + 1:]), duties)


class Twins(unittest.TestCase):
    def test_led_on_apart(self):
        live = Live(START)
        live.put(("sum", 1, 0))
        live.owe(MILD)
        live.back()
        twin = live.twin()
        self.assertEqual(history(twin), history(live))
        self.assertIs(twin == live, True)
        twin.again()
        self.assertEqual([twin.duties(), live.duties()], [[MILD], []])
        self.assertIs(twin == live, False)
        live.take()
        self.assertRaises(Nothing, live.again)
        self.assertEqual(twin.program_now()[1][2:], (("sum", 1, 0),))
        twin.back()
        twin.again()
        live.back()
        self.assertEqual(live.program_now(), twin.program_now())
        twin.back()
        self.assertIs(twin == live, True)
        twin.back()
        self.assertRaises(Nothing, twin.back)
        self.assertEqual(live.program_now()[1][2:], (("sum", 1, 0),))

    def test_equal(self):
        one, other = Live(START), Live((1, START[1] + (("sum", 1, 0),)))
        self.assertIs(one == other, False)
        self.assertIs(one != other, True)
        other.take()
        # What can be taken back does not matter.
        self.assertIs(one == other, True)
        self.assertIs(one != other, False)
        one.owe(MILD)
        one.owe(RIGHT)
        self.assertIs(one == other, False)
        other.owe(RIGHT)
        other.owe(MILD)
        self.assertIs(one == other, False)
        other.free(0)
        other.owe(RIGHT)
        self.assertIs(one == other, True)

    def test_equal_to_nothing_else(self):
        live = Live(START)
        for thing in odd_values() + [START, (START, ()), [live], (live,), Live]:
            self.assertIs(live == thing, False)
            self.assertIs(thing == live, False)
        self.assertIs(live == live, True)

    def test_lists_are_the_callers(self):
        live = Live(START)
        live.owe(RIGHT)
        live.duties().append(None)
        live.duties().clear()
        self.assertEqual(live.duties(), [RIGHT])
        self.assertIsNot(live.duties(), live.duties())

    def test_errors_are_of_the_package(self):
        live = Live(START)
        for deed in [lambda: live.put(None), live.again, lambda: live.owe(("square", (), ONE, ONE))]:
            with self.assertRaises(ChanceError) as caught:
                deed()
            self.assertNotIsInstance(caught.exception, (NotPlain, NotMild))
