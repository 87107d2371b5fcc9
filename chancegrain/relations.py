"""After how many rounds a led goal is a sum of those ahead of it, with fractions as factors."""

from math import gcd, lcm

from chancegrain.fractions import reduced, whole_power
from chancegrain.polynomials import common_den, whole_members

# Goals that are independent as long as multiples of this prime count as 0 are so altogether.
PRIME = 2305843009213693951


def images_of(placing, goal):
    """Return the dict from the powers of all members that led goals can have to what these become by a round."""
    images = {}
    waiting = [powers for powers, _ in goal]
    while len(waiting) > 0:
        powers = waiting.pop()
        if powers not in images:
            images[powers] = placing.product_made(powers)
            waiting.extend([more for more, _ in images[powers]])
    return images


def common_scale(images):
    """Return an integer from 1 on that all dens in some images divide."""
    scale = 1
    for image in images.values():
        scale = lcm(scale, common_den(image))
    return scale


def settled(numbers, modulus):
    """Return a dict to integers without those that are 0: multiples of modulus, if this is not 0."""
    if modulus > 0:
        numbers = {key: number % modulus for key, number in numbers.items()}
    return {key: number for key, number in numbers.items() if number != 0}


def led_numbers(images, numbers, modulus):
    """Return what a goal, as a dict from powers to integers, becomes by a round."""
    found = {}
    for powers, number in numbers.items():
        for more, by in images[powers]:
            found[more] = found.get(more, 0) + number * by
    return settled(found, modulus)


def mixed(one, by, other, less, modulus):
    """Return by times one, less times other taken from it, of dicts to integers."""
    found = {key: by * number for key, number in one.items()}
    for key, number in other.items():
        found[key] = found.get(key, 0) - less * number
    return settled(found, modulus)


def divided(numbers, common):
    """Return a dict to integers, each of them divided by an integer that divides it."""
    return {key: number // common for key, number in numbers.items()}


def freed(numbers, told, rows, modulus):
    """Return a goal without the leading members of rows, and how it is told by led goals, told being how it was."""
    for leading, row, row_told in rows:
        if leading in numbers:
            common = gcd(row[leading], numbers[leading])
            by, less = row[leading] // common, numbers[leading] // common
            numbers = mixed(numbers, by, row, less, modulus)
            told = mixed(told, by, row_told, less, modulus)
    return numbers, told


def lowered(numbers, told):
    """Return two dicts to integers, all divided by the greatest integer that divides them."""
    common = 0
    for number in list(numbers.values()) + list(told.values()):
        common = gcd(common, number)
    return divided(numbers, common), divided(told, common)


def least_relation(images, numbers, order, most, modulus):
    """Return the factors by which the first led goals are together 0, None if more than most are independent.

    These are a dict from numbers of rounds to integers. Where modulus is not 0 its multiples count as 0.
    """
    rows = []
    told = {0: 1}
    while True:
        numbers, told = freed(numbers, told, rows, modulus)
        if numbers == {}:
            return told
        if len(rows) == most:
            return None
        if modulus == 0:
            numbers, told = lowered(numbers, told)
        rows.append((max(numbers, key=lambda powers: [powers[place] for place in order]), numbers, told))
        numbers = led_numbers(images, numbers, modulus)
        told = {count + 1: number for count, number in told.items()}


def span_factors(placing, goal, order, most):
    """Return the factors of the SPAN with the fewest goals, None if it has more than most.

    Rounds make members small that have high powers at the places told first in order.
    """
    images = images_of(placing, goal)
    scale = common_scale(images)
    whole = {powers: whole_members(image, scale) for powers, image in images.items()}
    start = dict(whole_members(goal, common_den(goal)))
    if least_relation(whole, settled(start, PRIME), order, most, PRIME) is None:
        return None
    told = least_relation(whole, start, order, most, 0)
    if told is None:
        return None
    # The so-manieth led goal has been multiplied with scale as many times.
    count = max(told)
    return tuple([
        reduced(-told.get(at, 0), told[count] * whole_power(scale, count - at)) for at in range(count)
    ])
