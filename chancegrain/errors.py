"""The errors of the package; each keeps what it was constructed from."""


class ChanceError(ValueError):
    """What all errors of the package are; it is raised nowhere itself."""


class Wrong(ChanceError):
    """The argument at a place, counted from 0, is not as described."""

    def __init__(self, place):
        self.place = place


class NoText(ChanceError):
    """A text shows no program; line is the index of its first bad line."""

    def __init__(self, line):
        self.line = line


class NoQuotient(ChanceError):
    """Nothing can be divided by 0."""

    def __init__(self):
        """Take no arguments."""


class TooMany(ChanceError):
    """There are more than so many."""

    def __init__(self, most):
        self.most = most


class NotPlain(ChanceError):
    """A program is not plain; step is the index of its first choice."""

    def __init__(self, step):
        self.step = step


class NotMild(ChanceError):
    """A program is not mild; lot is a lot of errors that shows it."""

    def __init__(self, lot):
        self.lot = lot


class NotByLevels(ChanceError):
    """The exact round of a loop is not by levels; state is one that shows it."""

    def __init__(self, state):
        self.state = state


class Broken(ChanceError):
    """A duty would not be kept."""

    def __init__(self, duty):
        self.duty = duty


class Nothing(ChanceError):
    """There is nothing to be taken, taken back or done again."""

    def __init__(self):
        """Take no arguments."""


class NoCommand(ChanceError):
    """A line is no command."""

    def __init__(self):
        """Take no arguments."""
