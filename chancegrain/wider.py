"""Two mild programs: whether one can be farther off than the other."""

from chancegrain.fractions import is_less, power_of
from chancegrain.lots import lots_at
from chancegrain.spread import must_be_mild, square_by


def wider_lots(one, other, inputs):
    """Return the ascending list of the lots at which the square of the factor's worth is greater in one."""
    must_be_mild(one)
    must_be_mild(other)
    worths, others = lots_at(one, inputs), lots_at(other, inputs)
    return [
        lot for lot, worth in worths.items()
        if is_less(power_of(others.get(lot, (0, 1)), 2), power_of(worth, 2))
    ]


def is_never_wider(one, other, inputs):
    """Tell whether no WIDTHS make the greatest SQUARE of one greater than that of other."""
    return wider_lots(one, other, inputs) == []


def parting_widths(one, other, inputs):
    """Return WIDTHS by which the greatest SQUARE of one is greater, None if there are none."""
    lots = wider_lots(one, other, inputs)
    if lots == []:
        return None
    # With widths of one size in a lot, and of 0 elsewhere, the part of this lot grows fastest
    # with the size: in the end it outdoes what other has more in the lots within it.
    worths, others = lots_at(one, inputs), lots_at(other, inputs)
    size = 1
    while True:
        widths = tuple([(size * number, 1) for number in lots[0]])
        if is_less(square_by(others, widths), square_by(worths, widths)):
            return widths
        size = size * 2
