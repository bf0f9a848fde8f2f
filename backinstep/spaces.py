"""Loads, what they span, and whether all lots of a device are told yes."""

from math import gcd


def spare_load(basis, load):
    """A multiple of a load less loads of a basis, with noughts alone if the load is spanned by it.

    A basis tells by place a load that has there no nought; those told later have one there.
    """
    rest = list(load)
    for place, told in basis.items():
        if rest[place] != 0:
            top, bottom = told[place], rest[place]
            rest = least_multiple([number * top - less * bottom for number, less in zip(rest, told)])
    return rest


def least_multiple(load):
    """The load divided by what divides all its numbers."""
    common = 0
    for number in load:
        common = gcd(common, number)
        if common == 1:
            return load
    return load if common == 0 else [number // common for number in load]


def is_spanned(basis, load):
    """Whether a load is a sum of multiples of those of a basis."""
    return not any(spare_load(basis, load))


def take_load(basis, load):
    """Put a load into a basis if it is not spanned by it; tells whether it was put."""
    rest = least_multiple(spare_load(basis, load))
    for place, number in enumerate(rest):
        if number != 0:
            basis[place] = rest
            return True
    return False


def effect_load(effect):
    """The table of an effect, by state by state a 1 for the state that follows, as one load."""
    load = []
    for end in effect:
        load += [1 if state == end else 0 for state in range(len(effect))]
    return load
