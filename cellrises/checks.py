"""Errors for plain arguments, shared by the modules of the interface."""

from cellrises.arithmetic import is_between, is_fraction
from cellrises.errors import InvalidDegree, InvalidDimension, InvalidFraction, InvalidKind, InvalidNumber, InvalidSort


def check_fraction(fraction):
    """Refuse what is no fraction."""
    if not is_fraction(fraction):
        raise InvalidFraction(fraction)


def check_dimension(dimension, least=0, greatest=3):
    """Refuse what is no whole number from `least` to `greatest`."""
    if not is_between(dimension, least, greatest):
        raise InvalidDimension(dimension)


def check_degree(degree, least, greatest=4):
    """Refuse what is no whole number from `least` to `greatest`."""
    if not is_between(degree, least, greatest):
        raise InvalidDegree(degree)


def check_sort(sort, dimension):
    """Refuse what is no whole number from 0 to the dimension."""
    if not is_between(sort, 0, dimension):
        raise InvalidSort(sort)


def check_least(least, dimension):
    """Refuse what is no dimension to begin with, from 0 to that of the cell."""
    if not is_between(least, 0, dimension):
        raise InvalidNumber(least)


def check_told(kind, dimension, degree, sort):
    """Refuse what is no kind, dimension from 1 on, degree and sort of a told pair of forms and tests."""
    _check_kind(kind)
    check_dimension(dimension, 1)
    check_degree(degree, _least_degree(kind))
    check_sort_beside(degree, sort, dimension)


def _check_kind(kind):
    """Refuse what is neither whole nor trimmed."""
    if not isinstance(kind, str) or kind not in ("whole", "trimmed"):
        raise InvalidKind(kind)


def _least_degree(kind):
    """The least degree of a kind."""
    return 1 if kind == "trimmed" else 0


def check_sort_beside(degree, sort, dimension):
    """Refuse what is no whole number from 0 to the dimension, and for the degree 0 not this."""
    check_sort(sort, dimension)
    if degree == 0 and sort != dimension:
        raise InvalidSort(sort)


def check_land_kind(kind, degree, dimension):
    """Refuse what is no kind, and no degree of a told kind of a land of the dimension."""
    _check_kind(kind)
    check_degree(degree, _least_degree(kind), 2 if dimension == 3 else 3)
