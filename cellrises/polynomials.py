"""Polynomials as dicts from powers to fractions. Nothing is checked here."""

from math import factorial

from cellrises.arithmetic import ONE, fraction_of, fraction_product
from cellrises.terms import add_at, powers_together


def polynomial_product(first, second):
    """The product of two polynomials."""
    found = {}
    for powers, fraction in first.items():
        for others, factor in second.items():
            add_at(found, powers_together(powers, others), fraction_product(fraction, factor))
    return found


def polynomial_powers(polynomial, most, dimension):
    """A polynomial in as many numbers as the dimension tells, to the powers from 0 to `most`."""
    found = [{(0,) * dimension: ONE}]
    for _ in range(most):
        found.append(polynomial_product(found[-1], polynomial))
    return found


def substituted(polynomial, numbers, dimension):
    """A polynomial with a polynomial put for each of its numbers."""
    ladders = []
    for axis, number in enumerate(numbers):
        most = max([powers[axis] for powers in polynomial], default=0)
        ladders.append(polynomial_powers(number, most, dimension))
    found = {}
    for powers, fraction in polynomial.items():
        worth = {(0,) * dimension: fraction}
        for ladder, power in zip(ladders, powers):
            if power > 0:
                worth = polynomial_product(worth, ladder[power])
        for key, factor in worth.items():
            add_at(found, key, factor)
    return found


def sum_of_powers(powers):
    """The sum over the cell of the product of its numbers to these powers."""
    above = 1
    for power in powers:
        above = above * factorial(power)
    return fraction_of(above, factorial(len(powers) + sum(powers)))
