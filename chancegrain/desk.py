"""A desk at which a live program is led by lines of words."""

from chancegrain.errors import Broken, NoCommand, Nothing, Wrong
from chancegrain.live import KINDS, Live
from chancegrain.programs import choices_of
from chancegrain.right import bends
from chancegrain.texts import read_fraction, read_integer, read_program, read_step, show_program, shown_fraction
from chancegrain.worths import exact_result

# No integer that is read is as great, so every index that a line tells is below it.
BEYOND = 1000000000


def read_count(word):
    """Return the integer from 0 on that a word shows, None if it shows none."""
    number = read_integer(word)
    return number if number is not None and number >= 0 else None


def read_any_step(words):
    """Return the STEP, of whatever program, that some words show, None if they show none."""
    return read_step(BEYOND, BEYOND, words) if len(words) > 0 else None


def read_fractions(words):
    """Return the tuple of the FRACTIONS that some words show, None if a word shows none."""
    found = tuple([read_fraction(word) for word in words])
    return None if None in found else found


def read_duty(words):
    """Return what some words tell to owe, None if they tell nothing."""
    if words == ["right"]:
        return ("right",)
    if len(words) == 2 and words[0] == "kind" and words[1] in KINDS:
        return ("kind", words[1])
    if len(words) < 3 or words[0] != "square":
        return None
    told = read_fractions(words[1:])
    return None if told is None else ("square", told[:-2], told[-2], told[-1])


def read_told(words):
    """Return the tuple of what the words of a deed tell to do it with, None if they are no deed."""
    word, more = words[0], words[1:]
    if word in ("take", "back", "again"):
        return () if more == [] else None
    if word == "put":
        told = (read_any_step(more),)
    elif word == "owe":
        told = (read_duty(more),)
    elif word == "free" and len(more) == 1:
        told = (read_count(more[0]),)
    elif word == "change" and len(more) > 0:
        told = (read_count(more[0]), read_any_step(more[1:]))
    else:
        return None
    return None if None in told else told


def shown_duty(duty):
    """Return the words that tell to owe a DUTY."""
    if duty[0] != "square":
        return " ".join(duty)
    _, inputs, width, most = duty
    return " ".join([duty[0]] + [shown_fraction(one) for one in inputs + (width, most)])


def shown_bends(program):
    """Return the roundings that bend, "choice" if the program is not PLAIN."""
    if choices_of(program) != ():
        return "choice"
    return " ".join([str(rounding) for rounding in bends(program)])


def exact_answer(program, words):
    """Return the answer that shows the exact result at the inputs that some words tell, None if they tell none."""
    inputs = read_fractions(words)
    if inputs is None or len(inputs) != program[0]:
        return None
    return [shown_fraction(exact_result(program, inputs))]


class Desk:
    """Leads a program that a text shows by lines."""

    def __init__(self, text):
        self.led = Live(read_program(text))

    def execute(self, line):
        """Do, or tell, what a line says, and return the answer."""
        if not isinstance(line, str):
            raise Wrong(0)
        words = [word for word in line.split(" ") if word != ""]
        if len(words) == 0:
            raise NoCommand()
        told = read_told(words)
        answer = self.told_about(words) if told is None else self.done(words[0], told)
        if answer is None:
            raise NoCommand()
        return answer

    def told_about(self, words):
        """Return the answer to a question, None if the words are none."""
        program = self.led.program_now()
        if words[0] == "exact":
            return exact_answer(program, words[1:])
        if words == ["program"]:
            return show_program(program).split("\n")
        if words == ["duties"]:
            return [shown_duty(duty) for duty in self.led.duties()]
        if words == ["kind"]:
            return [self.led.kind()]
        if words == ["bends"]:
            return [shown_bends(program)]
        return None

    def done(self, word, told):
        """Let the Live do a deed, and return the answer."""
        try:
            self.let(word, told)
        except Wrong:
            return ["refused Wrong"]
        except Broken:
            return ["refused Broken"]
        except Nothing:
            return ["refused Nothing"]
        return ["done"]

    def let(self, word, told):
        """Let the Live do a deed."""
        if word == "put":
            self.led.put(told[0])
        elif word == "change":
            self.led.change(told[0], told[1])
        elif word == "take":
            self.led.take()
        elif word == "owe":
            self.led.owe(told[0])
        elif word == "free":
            self.led.free(told[0])
        elif word == "back":
            self.led.back()
        else:
            self.led.again()

    def live(self):
        """Return a twin of the Live."""
        return self.led.twin()
