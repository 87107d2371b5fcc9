"""Polynomials put in the places of all variables of others at once."""

from chancegrain.fractions import times, total_of
from chancegrain.polynomials import constant, gathered, multiplied, raised


class Placing:
    """Puts the same polynomials, of so many variables, in the places of the variables of others.

    It keeps the products that it has worked out: polynomials that are put in again and again
    have many of them in common.
    """

    def __init__(self, many, placed):
        self.many = many
        self.placed = tuple(placed)
        self.powers_made = {}
        self.products_made = {}

    def power_made(self, place, count):
        """Return the so-manieth power of what is put in at a place."""
        if (place, count) not in self.powers_made:
            self.powers_made[(place, count)] = raised(self.many, self.placed[place], count)
        return self.powers_made[(place, count)]

    def product_made(self, powers):
        """Return what the product of powers of all variables becomes."""
        if powers not in self.products_made:
            product = constant(self.many, (1, 1))
            for place, count in enumerate(powers):
                if count > 0:
                    product = multiplied(product, self.power_made(place, count))
            self.products_made[powers] = product
        return self.products_made[powers]

    def put_into(self, one):
        """Return what a polynomial becomes."""
        parts = {}
        for powers, factor in one:
            for more, by in self.product_made(powers):
                parts.setdefault(more, []).append(times(factor, by))
        return gathered({powers: total_of(parts[powers]) for powers in parts})
