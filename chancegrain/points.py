"""Points at which a polynomial is not 0."""

from chancegrain.polynomials import constant, put_in


def trial_value(trial):
    """Return the integer of a trial, as a FRACTION: 0, 1, -1, 2, -2 and so on."""
    number = (trial + 1) // 2
    return (number if trial % 2 == 1 else -number, 1)


def value_off(many, one, place):
    """Return a value for the variable at a place with which a POLYNOMIAL does not become ().

    The POLYNOMIAL is not (); behind the value stands what it becomes.
    """
    # It is () at no more values than its degree, so the trials come to an end.
    trial = 0
    while True:
        value = trial_value(trial)
        left = put_in(one, place, constant(many, value))
        if left != ():
            return value, left
        trial += 1


def point_off(one, count):
    """Return values for the first so many variables with which a POLYNOMIAL does not become ().

    The POLYNOMIAL is not ().
    """
    many = len(one[0][0])
    point = ()
    for place in range(count):
        value, one = value_off(many, one, place)
        point = point + (value,)
    return point
