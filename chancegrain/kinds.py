"""The kinds of plain programs: mild, right, own-right, even-right."""

from chancegrain.lots import error_lots, merged_lots
from chancegrain.right import is_right


def bars(lot, word):
    """Tell whether an error lot bars the kind of a word: "mild", "own" or "even"."""
    if word == "mild":
        return max(lot) > 1
    if word == "own":
        return 1 not in lot
    return not any([number % 2 == 1 for number in lot])


def bad_lots(program, word):
    """Return the ascending list of the error lots that bar the kind of a word."""
    return [lot for lot in error_lots(program) if bars(lot, word)]


def is_mild(program):
    """Tell whether a program is MILD."""
    return bad_lots(program, "mild") == []


def is_own_right(program):
    """Tell whether a program is OWN-RIGHT."""
    return bad_lots(program, "own") == []


def is_even_right(program):
    """Tell whether a program is EVEN-RIGHT."""
    return bad_lots(program, "even") == []


def kind_of(program):
    """Return the word of the first kind that a program has, "none" if it has none."""
    if is_mild(program):
        return "mild"
    if is_right(program):
        return "right"
    if is_own_right(program):
        return "own"
    if is_even_right(program):
        return "even"
    return "none"


def is_shared_right(program, classes):
    """Tell whether the mean is right if the roundings of each class throw one error together."""
    return not any([bars(lot, "own") for lot in merged_lots(program, classes)])
