"""Whole numbers, and fractions: pairs (n, m) in lowest terms, m above 0."""

from math import gcd

NIL = (0, 1)
ONE = (1, 1)


def is_whole(value):
    """Whether a value is a whole number; True and False are none."""
    return isinstance(value, int) and not isinstance(value, bool)


def is_between(value, least, greatest):
    """Whether a value is a whole number from `least` to `greatest`."""
    return is_whole(value) and least <= value <= greatest


def is_ascending(value, least, greatest):
    """Whether a value is an ascending tuple of whole numbers from `least` to `greatest`."""
    if not isinstance(value, tuple):
        return False
    if not all(is_between(each, least, greatest) for each in value):
        return False
    return all([low < high for low, high in zip(value, value[1:])])


def is_fraction(value):
    """Whether a value is a fraction."""
    if not isinstance(value, tuple) or len(value) != 2:
        return False
    above, below = value
    if not is_whole(above) or not is_whole(below):
        return False
    return below > 0 and gcd(above, below) == 1


def fraction_of(above, below):
    """The fraction for `above` divided by `below`, which is not 0."""
    shared = gcd(above, below)
    if below < 0:
        shared = -shared
    return (above // shared, below // shared)


def fraction_sum(first, second):
    """The sum of two fractions."""
    if first[1] == 1 and second[1] == 1:
        return (first[0] + second[0], 1)
    return fraction_of(first[0] * second[1] + second[0] * first[1], first[1] * second[1])


def fraction_product(first, second):
    """The product of two fractions."""
    if first[1] == 1 and second[1] == 1:
        return (first[0] * second[0], 1)
    return fraction_of(first[0] * second[0], first[1] * second[1])


def fraction_times(fraction, number):
    """A fraction times a whole number."""
    return fraction_product(fraction, (number, 1))
