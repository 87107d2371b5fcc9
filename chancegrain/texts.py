"""Programs as texts: one line with the number of inputs, and one for each step."""

from chancegrain.errors import NoText, Wrong
from chancegrain.forms import is_fraction, is_step

MOST_DIGITS = 9


def shown_fraction(fraction):
    """Return how a FRACTION is shown."""
    num, den = fraction
    if den == 1:
        return str(num)
    return f"{num}/{den}"


def shown_step(step):
    """Return the line of a step."""
    if step[0] == "told":
        return f"told {shown_fraction(step[1])}"
    return " ".join([step[0]] + [str(index) for index in step[1:]])


def show_program(program):
    """Return the text that shows a program."""
    return "\n".join([f"inputs {program[0]}"] + [shown_step(step) for step in program[1]])


def words_of(line):
    """Return the list of the words of a line, its remark left out."""
    # Only blanks part words, so that any other sign makes a word that is none.
    return [word for word in line.split("#")[0].split(" ") if word != ""]


def read_integer(word):
    """Return the integer that a word shows, None if it shows none."""
    digits = word[1:] if word.startswith("-") else word
    if not 1 <= len(digits) <= MOST_DIGITS or not all([sign in "0123456789" for sign in digits]):
        return None
    number = int(word)
    return number if str(number) == word else None


def read_fraction(word):
    """Return the FRACTION that a word shows, None if it shows none."""
    top, bar, bottom = word.partition("/")
    fraction = (read_integer(top), read_integer(bottom) if bar == "/" else 1)
    if not is_fraction(fraction) or (bar == "/" and fraction[1] == 1):
        return None
    return fraction


def read_inputs(words):
    """Return the number of inputs that the words of a line tell, None if they tell none."""
    if len(words) != 2 or words[0] != "inputs":
        return None
    many = read_integer(words[1])
    return many if many is not None and many >= 0 else None


def read_step(many, ahead, words):
    """Return the STEP that the words of a line show, None if they show none.

    There are so many inputs, and so many steps ahead of it.
    """
    if words[0] == "told":
        told = [read_fraction(word) for word in words[1:]]
    else:
        told = [read_integer(word) for word in words[1:]]
    step = (words[0],) + tuple(told)
    return step if is_step(many, ahead, step) else None


def read_program(text):
    """Return the program that a text shows."""
    if not isinstance(text, str):
        raise Wrong(0)
    lines = text.split("\n")
    many = None
    steps = []
    for at, line in enumerate(lines):
        words = words_of(line)
        if len(words) == 0:
            continue
        if many is None:
            many = read_inputs(words)
            found = many
        else:
            found = read_step(many, len(steps), words)
            steps.append(found)
        if found is None:
            raise NoText(at)
    if len(steps) == 0:
        raise NoText(len(lines))
    return (many, tuple(steps))
