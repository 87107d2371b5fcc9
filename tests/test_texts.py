import random
import unittest

from chancegrain.errors import ChanceError, NoText, Wrong
from chancegrain.forms import is_program
from chancegrain.texts import read_program, show_program
from tests.helpers import odd_values, some_program

ALL = (2, (
    ("input", 1), ("told", (-1, 2)), ("told", (-3, 1)), ("told", (0, 1)), ("sum", 0, 1), ("less", 4, 0),
    ("times", 2, 2), ("round", 6), ("choice", 0, 7, 1),
))
TEXT = "\n".join([
    "inputs 2", "input 1", "told -1/2", "told -3", "told 0", "sum 0 1", "less 4 0", "times 2 2", "round 6",
    "choice 0 7 1",
])


class Showing(unittest.TestCase):
    def test_every_step(self):
        self.assertEqual(show_program(ALL), TEXT)

    def test_without_inputs(self):
        self.assertEqual(show_program((0, (("told", (7, 3)),))), "inputs 0\ntold 7/3")

    def test_is_read_back(self):
        chance = random.Random(16)
        words = ["sum", "less", "times", "round", "choice"]
        for _ in range(40):
            program = some_program(chance, chance.randint(0, 4), 12, words)
            self.assertEqual(read_program(show_program(program)), program)
        great = (999999999, (("input", 999999998), ("told", (-999999999, 999999998))))
        self.assertEqual(read_program(show_program(great)), great)


class Reading(unittest.TestCase):
    def test_every_step(self):
        self.assertEqual(read_program(TEXT), ALL)
        self.assertIs(is_program(read_program(TEXT)), True)

    def test_blanks_remarks_and_empty_lines(self):
        text = "\n  \n# inputs 7\n  inputs   2 # inputs\n\n input  1#x\n#\n  told -1/2   ##\ntold -3 # \n \n\ntold 0\n"
        self.assertEqual(read_program(text), (2, ALL[1][:4]))
        self.assertEqual(read_program("inputs 1\ninput 0#\n#"), (1, (("input", 0),)))

    def bad(self, text, line):
        with self.assertRaises(NoText) as caught:
            read_program(text)
        self.assertEqual(caught.exception.line, line, text)

    def test_without_steps(self):
        for text, many in [
            ("", 1), (" ", 1), ("#", 1), ("\n", 2), ("\n\n\n", 4), ("inputs 1", 1), ("inputs 1\n", 2),
            ("# inputs 1\n#input 0", 2), ("\n inputs 0 #\n  ", 3), ("inputs 1\n#input 0\n\n", 4),
        ]:
            self.bad(text, many)

    def test_bad_first_lines(self):
        for line in [
            "input 0", "inputs", "inputs 1 1", "inputs -1", "inputs -0", "inputs 01", "inputs +1", "inputs 1/2",
            "inputs 2/1", "inputs x", "inputs 1_0", "inputs 1234567890", "Inputs 1", "inputs1", "told 1", "round",
            "inputs 1.0", "inputs 1 x", "input s 1", "inputs #1", "inputs -", "inputs 0x1", "inputs\t1",
        ]:
            self.bad(line + "\ninput 0", 0)
            self.bad("\n# x\n" + line + "\ninput 0\nBAD", 2)

    def test_bad_steps(self):
        for line in [
            "inputs 2", "inputs", "input", "input 2", "input -1", "input -0", "input 00", "input 1 1", "input x",
            "input 1/1", "input 1234567890", "Input 1", "INPUT 1", "told", "told 1 2", "told 2/4", "told 1/1",
            "told 5/1", "told 0/1", "told 0/2", "told 1/0", "told 1/-2", "told -1/-2", "told 1/02", "told 01/2",
            "told +1", "told -0", "told 1/", "told /2", "told /", "told 1/2/3", "told 1 /2", "told 1/ 2",
            "told 1234567890", "told 1/1234567890", "told -1234567890", "told 0.5", "told x", "told -",
            "told --1", "told 1_0", "told 1-", "sum 0", "sum 0 1 1", "sum 0 2", "sum 2 0", "sum -1 0", "sum 0 -0",
            "sum 0 00", "sum 0 0/1", "sum 0, 1", "less 0 2", "less 0", "times 2 2", "times", "round", "round 2",
            "round -1", "round 0 0", "choice 0 1", "choice 2 0 0", "choice 0 2 0", "choice 0 0 2",
            "choice 0 0 0 0", "over 0 1", "0 1", "(", "sum0 1", "choice", "less", "told\t1", "1", "round 1.",
        ]:
            self.bad("inputs 2\ninput 0\ninput 1\n" + line, 3)
            self.bad("inputs 2\n\ninput 0 # x\n  #\ninput 1\n  " + line + "  # y\nBAD\ninput 9", 5)

    def test_nine_digits_are_right(self):
        found = read_program("inputs 1\ntold -123456789/999999998\ntold 999999999")
        self.assertEqual(found[1], (("told", (-123456789, 999999998)), ("told", (999999999, 1))))

    def test_steps_of_lines_behind(self):
        self.bad("inputs 1\nsum 0 0\ninput 0", 1)
        self.bad("inputs 1\nround 0", 1)
        self.bad("inputs 0\ninput 0", 1)

    def test_no_string(self):
        for thing in odd_values() + [["inputs 1", "input 0"], ("inputs 1\ninput 0",), ALL, b"inputs 1\ninput 0"]:
            if isinstance(thing, str):
                with self.assertRaises(NoText):
                    read_program(thing)
                continue
            with self.assertRaises(Wrong) as caught:
                read_program(thing)
            self.assertEqual(caught.exception.place, 0)

    def test_any_string(self):
        chance = random.Random(17)
        for _ in range(300):
            signs = list(TEXT)
            for _ in range(chance.randint(1, 3)):
                signs[chance.randrange(len(signs))] = chance.choice("0123456789 -/#\nabz~!")
            text = "".join(signs)
            try:
                self.assertIs(is_program(read_program(text)), True)
            except ChanceError as error:
                self.assertIsInstance(error, NoText)
                self.assertLess(error.line, text.count("\n") + 1)
