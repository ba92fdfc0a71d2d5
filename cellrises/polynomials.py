"""Polynomials as dicts from powers to fractions. Nothing is checked here."""

from math import factorial, lcm

from cellrises.arithmetic import fraction_of, fraction_product
from cellrises.terms import add_at, powers_together


def polynomial_product(first, second):
    """The product of two polynomials."""
    found = {}
    for powers, fraction in first.items():
        for others, factor in second.items():
            add_at(found, powers_together(powers, others), fraction_product(fraction, factor))
    return found


def over_one(polynomial):
    """A polynomial as a pair: whole numbers by powers, and by what all of them are divided."""
    below = 1
    for fraction in polynomial.values():
        below = lcm(below, fraction[1])
    return ({powers: polynomial[powers][0] * (below // polynomial[powers][1]) for powers in polynomial}, below)


def substituted(polynomial, numbers, dimension):
    """A polynomial with polynomials of so many other numbers, told as pairs, put for its numbers."""
    # Terms with like denominators go together in whole numbers: so nothing is put in lowest terms but at the end.
    groups = {}
    for powers, (above, below) in polynomial.items():
        group = groups.setdefault(below, {})
        group[powers] = above
    found = {}
    for below in groups:
        wholes, more = _whole_substituted(groups[below], numbers, dimension)
        for powers, number in wholes.items():
            add_at(found, powers, fraction_of(number, below * more))
    return found


def _whole_substituted(wholes, numbers, dimension):
    """A pair, for a polynomial of whole numbers, not empty, with polynomials told as pairs put for its numbers."""
    if not numbers:
        return ({(0,) * dimension: wholes[()]}, 1)
    by_power = {}
    for powers, number in wholes.items():
        rest = by_power.setdefault(powers[0], {})
        rest[powers[1:]] = number
    found = ({}, 1)
    # From the highest power down: each step multiplies by a number alone, which is short.
    for power in range(max(list(by_power)), -1, -1):
        found = _whole_product(found, numbers[0])
        if power in by_power:
            found = _whole_sum(found, _whole_substituted(by_power[power], numbers[1:], dimension))
    return found


def _whole_product(first, second):
    """The product of two polynomials told as pairs."""
    found = {}
    for powers, number in first[0].items():
        for others, factor in second[0].items():
            both = powers_together(powers, others)
            found[both] = found.get(both, 0) + number * factor
    return (found, first[1] * second[1])


def _whole_sum(first, second):
    """The sum of two polynomials told as pairs."""
    below = lcm(first[1], second[1])
    near, far = below // first[1], below // second[1]
    found = {powers: first[0][powers] * near for powers in first[0]}
    for powers, number in second[0].items():
        found[powers] = found.get(powers, 0) + number * far
    return (found, below)


def sum_of_powers(powers):
    """The sum over the cell of the product of its numbers to these powers."""
    above = 1
    for power in powers:
        above = above * factorial(power)
    return fraction_of(above, factorial(len(powers) + sum(powers)))
