"""Programs worked out rounding by rounding, where many pasts begin alike."""

from chancegrain.programs import needed_by
from chancegrain.rules import sure_throw
from chancegrain.worths import step_worth


class Walk:
    """Works out the steps of a program at inputs, up to each rounding in turn.

    Where it stands is told by the tuple of the values of all steps ahead of the next rounding.
    Steps that nothing needs may be very long: None stands for them.
    """

    def __init__(self, program, inputs):
        self.steps = program[1]
        self.inputs = inputs
        self.needed = needed_by(program, (len(program[1]) - 1,))

    def led_on(self, told):
        """Return where one stands behind the first steps, whose values are told."""
        reached = list(told)
        for at in range(len(told), len(self.steps)):
            step = self.steps[at]
            if step[0] == "round":
                break
            reached.append(step_worth(step, self.inputs, reached) if at in self.needed else None)
        return tuple(reached)

    def begun(self):
        """Return where one stands ahead of all roundings."""
        return self.led_on(())

    def behind(self, told, value):
        """Return where one stands if the next rounding comes to a value."""
        return self.led_on(told + (value,))

    def is_over(self, told):
        """Tell whether no rounding comes any more; the last value is the result then."""
        return len(told) == len(self.steps)

    def argument(self, told):
        """Return the argument of the next rounding."""
        return told[self.steps[len(told)][1]]


def all_throws(program, inputs, rule, fits):
    """Tell whether fits(rounding, argument, throw) is so at each past that comes about by a RULE."""
    walk = Walk(program, inputs)
    reached = [((), walk.begun())]
    while len(reached) > 0:
        past, told = reached.pop()
        if not walk.is_over(told):
            argument = walk.argument(told)
            throw = rule.get(past, sure_throw(argument))
            if not fits(len(past), argument, throw):
                return False
            reached.extend([(past + (value,), walk.behind(told, value)) for value, _ in throw])
    return True
