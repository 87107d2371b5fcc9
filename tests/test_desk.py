import random
import unittest

from chancegrain.desk import Desk
from chancegrain.errors import NoCommand, NoText, Wrong
from chancegrain.live import Live
from chancegrain.right import bends
from chancegrain.texts import show_program
from chancegrain.worths import exact_result
from tests.helpers import odd_values, some_inputs, some_program, whole

HALF, ONE = (1, 2), (1, 1)
TEXT = "inputs 1\ninput 0\nround 0"
DONE = ["done"]


def refused(word):
    return ["refused " + word]


class Desks(unittest.TestCase):
    def desk(self, *lines, text=TEXT):
        desk = Desk(text)
        for line in lines:
            self.assertEqual(desk.execute(line), DONE, line)
        return desk

    def state(self, desk):
        return [desk.execute(line) for line in ["program", "duties", "kind", "bends"]]


class Texts(Desks):
    def test_texts(self):
        self.assertEqual(Desk("# \n inputs 2\ninput 1 # x\n\nround 0").execute("program"),
                         ["inputs 2", "input 1", "round 0"])
        for text, line in [("", 1), ("inputs 1", 1), ("inputs 1\ninput 1", 1), ("input 0", 0),
                           ("inputs 1\n\nround 0", 2)]:
            with self.assertRaises(NoText) as caught:
                Desk(text)
            self.assertEqual(caught.exception.line, line)

    def test_any_value(self):
        for thing in odd_values() + [Live((1, (("input", 0),))), Desk(TEXT)]:
            with self.assertRaises(NoText if isinstance(thing, str) else Wrong) as caught:
                Desk(thing)
            if not isinstance(thing, str):
                self.assertEqual(caught.exception.place, 0)

    def test_lines_of_any_value(self):
        desk = self.desk()
        for thing in odd_values() + [desk, desk.live(), ["take"], ("take",), b"take"]:
            with self.assertRaises(NoCommand if isinstance(thing, str) else Wrong) as caught:
                desk.execute(thing)
            if not isinstance(thing, str):
                self.assertEqual(caught.exception.place, 0)
        self.assertEqual(self.state(desk), [["inputs 1", "input 0", "round 0"], [], ["mild"], [""]])


class Deeds(Desks):
    def test_each_step(self):
        desk = self.desk("put told -1/2", "put told 3", "put sum 0 1", "put less 1 2", "put times 0 4", "put round 5",
                         "put choice 0 6 2", "put input 0")
        self.assertEqual(desk.execute("program"), [
            "inputs 1", "input 0", "round 0", "told -1/2", "told 3", "sum 0 1", "less 1 2", "times 0 4", "round 5",
            "choice 0 6 2", "input 0",
        ])
        self.assertEqual(desk.live().program_now()[1][2:4], (("told", (-1, 2)), ("told", whole(3))))
        self.assertEqual(desk.execute("change 4 told 7/3"), DONE)
        self.assertEqual([desk.execute("take"), desk.execute("take")], [DONE, DONE])
        self.assertEqual(desk.execute("program")[5:], ["told 7/3", "less 1 2", "times 0 4", "round 5"])

    def test_duties(self):
        desk = self.desk("owe right", "owe kind even", "owe square 3 1/2 7/4", "owe square -2/3 0 0", "owe right")
        self.assertEqual(desk.execute("duties"), ["right", "kind even", "square 3 1/2 7/4", "square -2/3 0 0", "right"])
        self.assertEqual(desk.live().duties(), [
            ("right",), ("kind", "even"), ("square", (whole(3),), HALF, (7, 4)), ("square", ((-2, 3),), (0, 1), (0, 1)),
            ("right",),
        ])
        self.assertEqual([desk.execute("free 4"), desk.execute("free 0")], [DONE, DONE])
        self.assertEqual(desk.execute("duties"), ["kind even", "square 3 1/2 7/4", "square -2/3 0 0"])
        none = self.desk("owe square 0 1", "owe kind mild", "owe kind right", "owe kind own", text="inputs 0\ntold 1/2")
        self.assertEqual(none.execute("duties"), ["square 0 1", "kind mild", "kind right", "kind own"])

    def test_refused(self):
        desk = self.desk("owe right", "owe square 0 1 1")
        for line, word in [
            ("put times 1 1", "Broken"), ("change 1 times 2 2", "Wrong"), ("owe square 0 1 999/1000", "Broken"),
            ("owe square 1 1", "Broken"), ("owe square 0 -1 1", "Wrong"), ("owe square 0 1 -1", "Wrong"),
            ("put input 1", "Wrong"), ("put round 2", "Wrong"), ("put sum 0 999999999", "Wrong"),
            ("put choice 0 0 0", "Broken"),
            ("change 2 input 0", "Wrong"), ("change 999999999 input 0", "Wrong"), ("change 0 round 0", "Wrong"),
            ("change 0 round 5", "Wrong"), ("free 2", "Wrong"), ("again", "Nothing"),
        ]:
            before = self.state(desk)
            self.assertEqual(desk.execute(line), refused(word), line)
            self.assertEqual(self.state(desk), before)
        self.assertEqual(self.desk(text="inputs 1\ninput 0").execute("take"), refused("Nothing"))
        fresh = self.desk()
        self.assertEqual([fresh.execute("back"), fresh.execute("again"), fresh.execute("free 0")],
                         [refused("Nothing"), refused("Nothing"), refused("Wrong")])

    def test_back_and_again(self):
        desk = self.desk("put sum 0 1", "owe kind mild")
        self.assertEqual([desk.execute(line) for line in ["back", "back", "back", "again", "put less 0 1", "again"]],
                         [DONE, DONE, refused("Nothing"), DONE, DONE, refused("Nothing")])
        self.assertEqual(desk.execute("program")[3:], ["sum 0 1", "less 0 1"])
        # What is refused takes nothing away of what can be done again.
        desk.execute("back")
        self.assertEqual([desk.execute("put round 9"), desk.execute("again")], [refused("Wrong"), DONE])

    def test_twins(self):
        desk = self.desk("put sum 0 1")
        twin = desk.live()
        self.assertEqual(twin, Live((1, (("input", 0), ("round", 0), ("sum", 0, 1)))))
        twin.back()
        twin.owe(("right",))
        self.assertEqual([desk.execute("duties"), desk.execute("program")[3:]], [[], ["sum 0 1"]])
        self.assertEqual(desk.execute("take"), DONE)
        other = desk.live()
        other.back()
        self.assertEqual(other.program_now()[1][-1], ("sum", 0, 1))


class Questions(Desks):
    def test_kind_and_bends(self):
        square = "\nround 0\nround 0\ntimes 1 1\ntimes 3 3\nsum 4 5"
        for text, kind, bent in [
            (TEXT, "mild", ""), (TEXT + "\ntimes 1 1", "none", "0"), (TEXT + square, "none", "0 2"),
            (TEXT + "\nchoice 0 0 1", "choice", "choice"), (TEXT + "\nchoice 0 0 1\ninput 0", "choice", "choice"),
            (TEXT + "\nless 1 0\ntimes 2 2\ntimes 3 2", "even", "0"), ("inputs 0\ntold 2", "mild", ""),
        ]:
            desk = self.desk(text=text)
            self.assertEqual([desk.execute("kind"), desk.execute("bends")], [[kind], [bent]], text)
            if kind != "choice":
                self.assertEqual(bent, " ".join(str(one) for one in bends(desk.live().program_now())))

    def test_exact(self):
        desk = self.desk("put times 1 1", "put choice 0 2 0")
        self.assertEqual([desk.execute("exact 3"), desk.execute("exact -1/2"), desk.execute("exact 1/3"),
                          desk.execute("exact 0")],
                         [["9"], ["-1/2"], ["1/9"], ["0"]])
        none = self.desk(text="inputs 0\ntold -7/2")
        self.assertEqual(none.execute("exact"), ["-7/2"])
        chance = random.Random(430)
        for _ in range(30):
            program = some_program(chance, 2, 7, ["sum", "less", "times", "round", "choice"])
            inputs = some_inputs(chance, 2)
            words = [str(num) if den == 1 else str(num) + "/" + str(den) for num, den in inputs]
            num, den = exact_result(program, inputs)
            desk = self.desk(text=show_program(program))
            self.assertEqual(desk.execute("exact " + " ".join(words)), [str(num) if den == 1 else f"{num}/{den}"])
            self.assertEqual(desk.execute("program"), show_program(program).split("\n"))

    def test_that_change_nothing(self):
        desk = self.desk("put sum 0 1", "owe right")
        desk.execute("back")
        before = self.state(desk)
        for line in ["program", "duties", "kind", "bends", "exact 1"]:
            desk.execute(line)
        self.assertEqual(self.state(desk), before)
        self.assertEqual([desk.execute("again"), desk.execute("duties")], [DONE, ["right"]])

    def test_answers_are_the_callers(self):
        desk = self.desk("owe right")
        for line in ["program", "duties", "kind", "bends", "exact 1", "back", "again", "free 9"]:
            first = desk.execute(line)
            first.append(None)
            self.assertNotIn(None, desk.execute(line))
        self.assertIsNot(desk.execute("kind"), desk.execute("kind"))


class Lines(Desks):
    def test_blanks(self):
        desk = self.desk("  put   sum  0   1  ", " owe    kind own", "owe  square  1   1  4 ", "free 0 ", " take",
                         "  back ")
        self.assertEqual(desk.execute(" program  ")[3:], ["sum 0 1"])
        self.assertEqual([desk.execute("  exact   1/2 "), desk.execute(" kind")], [["1"], ["mild"]])

    def no_command(self, desk, line):
        before = self.state(desk)
        with self.assertRaises(NoCommand):
            desk.execute(line)
        self.assertEqual(self.state(desk), before)

    def test_no_commands(self):
        desk = self.desk("put sum 0 1", "owe right")
        desk.execute("back")
        for line in [
            "", " ", "    ", "\n", "take\n", "\ntake", "take\nback", "put sum 0\n1", "put\nsum 0 1", "program\n", "#",
            "take #",
            "# take", "take#", "kind # x", "put sum 0 1 # x", "put sum 0 1#", "put", "put sum", "put sum 0",
            "put sum 0 1 1",
            "put input", "put input 0 0", "put told", "put told 1 2", "put round 0 0", "put choice 0 0",
            "put choice 0 0 0 0",
            "put word 0", "put inputs 1", "put put sum 0 1", "put sum -1 0", "put sum +0 1", "put sum 00 1",
            "put sum 01 1",
            "put sum 0 1/2", "put sum 0 1000000000", "put sum 0 1.0", "put sum a b", "put told 2/4", "put told 1/1",
            "put told 3/1",
            "put told -0", "put told 1/-2", "put told 1/0", "put told 0/2", "put told +1", "put told 01",
            "put told 1/02",
            "put told 1000000000", "put told 1/1000000000", "put told 1 / 2", "put told 1/", "put told /2",
            "put told --1",
            "change", "change 0", "change 0 sum", "change sum 0 1", "change -1 input 0", "change 00 input 0",
            "change 0 input",
            "change 1/2 input 0", "change 0 told 2/4", "change 0 told", "change +0 input 0",
            "change 1000000000 input 0",
            "take 1", "take take", "owe", "owe kind", "owe kind none", "owe kind choice", "owe kind mild own",
            "owe right right",
            "owe square", "owe square 1", "owe square 1 2/4", "owe square a 1", "owe square 1 1 1/1", "owe Right",
            "owe mild", "owe squares 1 1", "owe right 1 1", "owe kind 1 1", "owe 1 1 1", "word 0 input 0",
            "changes 0 input 0", "0 input 0", "word 0", "freed 0", "owes right", "owes kind mild", "puts input 0", "1",
            "exacts 1",
            "free", "free -1", "free 0 0", "free 00", "free a", "free 1/2", "back 1", "again 1", "back back",
            "program 1", "duties 1", "kind 1", "bends 0", "kind mild", "exact", "exact 1 1", "exact 2/4", "exact a",
            "exact 1/1",
            "Take", "KIND", "live", "twin", "steps", "sum 0 1", "owe\tright", "take\t", "exact 1\n",
        ]:
            self.no_command(desk, line)
        self.assertEqual(desk.execute("again"), DONE)
        self.no_command(self.desk(text="inputs 0\ntold 1"), "exact 1")
        self.no_command(self.desk(text="inputs 2\ninput 1"), "exact 1")
        self.assertEqual(self.desk(text="inputs 2\ninput 1").execute("exact 1 3"), ["3"])

    def test_great_numbers(self):
        desk = self.desk("put told 999999999", "put told -999999999/999999998")
        self.assertEqual(desk.execute("put input 999999999"), refused("Wrong"))
        self.assertEqual(desk.execute("exact -999999999"), ["-999999999/999999998"])
        self.assertEqual(desk.execute("program")[3:], ["told 999999999", "told -999999999/999999998"])
