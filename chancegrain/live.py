"""Programs that change, and keep duties while they do."""

from chancegrain.errors import Broken, Nothing, Wrong
from chancegrain.forms import are_fractions, is_fraction, is_index, is_program, is_step, is_tuple_of
from chancegrain.fractions import is_less
from chancegrain.kinds import kind_of
from chancegrain.movedkinds import mild_square
from chancegrain.programs import choices_of
from chancegrain.right import is_right

# Each kind is so if one ahead of it is.
KINDS = ("mild", "right", "own", "even")


def is_size(thing):
    """Tell whether a value is a FRACTION from 0 on."""
    return is_fraction(thing) and thing[0] >= 0


def is_duty(thing):
    """Tell whether a value is a DUTY."""
    if not isinstance(thing, tuple) or len(thing) == 0:
        return False
    word, told = thing[0], thing[1:]
    if word == "right":
        return told == ()
    if word == "kind":
        return len(told) == 1 and told[0] in KINDS
    if word != "square" or len(told) != 3:
        return False
    inputs, width, most = told
    return are_fractions(inputs) and is_size(width) and is_size(most)


def is_square_kept(program, inputs, width, most):
    """Tell whether a PLAIN program is MILD, has such inputs, and a greatest SQUARE there that is at most most."""
    if not is_tuple_of(program[0], inputs):
        return False
    square = mild_square(program, inputs, width)
    return square is not None and not is_less(most, square)


def is_kept(program, duty):
    """Tell whether a DUTY is KEPT by a program."""
    if choices_of(program) != ():
        return False
    if duty[0] == "right":
        return is_right(program)
    if duty[0] == "kind":
        return kind_of(program) in KINDS[:KINDS.index(duty[1]) + 1]
    _, inputs, width, most = duty
    return is_square_kept(program, inputs, width, most)


class Live:
    """Leads a program that changes, and duties that it keeps."""

    def __init__(self, program):
        if not is_program(program):
            raise Wrong(0)
        self.state = (program, ())
        self.former = []
        self.later = []

    def __eq__(self, other):
        return isinstance(other, Live) and self.state == other.state

    def go_on(self, program, owed):
        """Go on to a program and duties, by something that can be taken back."""
        self.former.append(self.state)
        self.later = []
        self.state = (program, owed)

    def go_on_kept(self, program, owed):
        """Go on to a program and duties that it keeps."""
        for duty in owed:
            if not is_kept(program, duty):
                raise Broken(duty)
        self.go_on(program, owed)

    def put(self, step):
        """Put a step behind all others."""
        (many, steps), owed = self.state
        if not is_step(many, len(steps), step):
            raise Wrong(0)
        self.go_on_kept((many, steps + (step,)), owed)

    def change(self, index, step):
        """Put a step in the place of another one."""
        (many, steps), owed = self.state
        if not is_index(index, len(steps)):
            raise Wrong(0)
        if not is_step(many, index, step):
            raise Wrong(1)
        self.go_on_kept((many, steps[:index] + (step,) + steps[index + 1:]), owed)

    def take(self):
        """Take the last step out, and return it."""
        (many, steps), owed = self.state
        if len(steps) == 1:
            raise Nothing()
        self.go_on_kept((many, steps[:-1]), owed)
        return steps[-1]

    def owe(self, duty):
        """Put a DUTY behind all others."""
        if not is_duty(duty):
            raise Wrong(0)
        program, owed = self.state
        self.go_on_kept(program, owed + (duty,))

    def free(self, index):
        """Take a DUTY out, and return it."""
        program, owed = self.state
        if not is_index(index, len(owed)):
            raise Wrong(0)
        self.go_on(program, owed[:index] + owed[index + 1:])
        return owed[index]

    def back(self):
        """Take back the last thing that was done and stands."""
        if len(self.former) == 0:
            raise Nothing()
        self.later.append(self.state)
        self.state = self.former.pop()

    def again(self):
        """Do once more what was taken back last."""
        if len(self.later) == 0:
            raise Nothing()
        self.former.append(self.state)
        self.state = self.later.pop()

    def program_now(self):
        """Return the program."""
        return self.state[0]

    def duties(self):
        """Return the list of the duties."""
        return list(self.state[1])

    def kind(self):
        """Return kind_of the program, "choice" if it is not PLAIN."""
        if choices_of(self.state[0]) != ():
            return "choice"
        return kind_of(self.state[0])

    def twin(self):
        """Return an independent Live in the same state, with all that can be taken back and done again."""
        other = Live(self.state[0])
        other.state = self.state
        other.former = list(self.former)
        other.later = list(self.later)
        return other
