"""Errors for plain arguments, shared by the modules of the interface."""

from cellrises.arithmetic import is_between, is_fraction
from cellrises.errors import InvalidDegree, InvalidDimension, InvalidFraction, InvalidNumber, InvalidSort


def check_fraction(fraction):
    """Refuse what is no fraction."""
    if not is_fraction(fraction):
        raise InvalidFraction(fraction)


def check_dimension(dimension):
    """Refuse what is no whole number from 0 to 3."""
    if not is_between(dimension, 0, 3):
        raise InvalidDimension(dimension)


def check_degree(degree, least):
    """Refuse what is no whole number from `least` to 4."""
    if not is_between(degree, least, 4):
        raise InvalidDegree(degree)


def check_sort(sort, dimension):
    """Refuse what is no whole number from 0 to the dimension."""
    if not is_between(sort, 0, dimension):
        raise InvalidSort(sort)


def check_least(least, dimension):
    """Refuse what is no dimension to begin with, from 0 to that of the cell."""
    if not is_between(least, 0, dimension):
        raise InvalidNumber(least)
