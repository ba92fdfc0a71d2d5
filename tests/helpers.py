"""What the tests share: made forms, wrong values, and another way to reckon that the package does not use."""

import random
import unittest
from fractions import Fraction
from itertools import combinations, permutations, product
from math import comb

CELLS = [(dimension, sort) for dimension in range(4) for sort in range(dimension + 1)]


def deep(depth, wrap):
    """A value nested so deep."""
    value = 1
    for _ in range(depth):
        value = wrap(value)
    return value


def junk():
    """Values that stand for nothing in this package; the list is made anew each time."""
    return [
        None, True, False, -1, 5, 7, 10 ** 399, -10 ** 399, "", "whole", "(0, 1)", b"", b"form", [], {}, set(), frozenset(),
        [1, 2], {"a": 1}, {1: (2, 0, ())}, (None,), (True,), ("", ""), ((), ()), ((), (), (), ()), object(), int, Fraction,
        len, range(3), deep(14, lambda value: (value,)), deep(14, lambda value: [value]), deep(14, lambda value: {1: value}),
        deep(13, lambda value: (value, value)),
    ]


def wrong_fractions():
    """Values that are no fractions."""
    return junk() + [
        (), (1,), (1, 2, 3), [1, 2], (1, 0), (1, -2), (-1, -2), (2, 4), (0, 2), (0, -1), (0, 0), (6, 3), (True, 1), (1, True),
        (False, 1), (None, 1), (1, None), ("1", 1), ((1, 1), 1), (10 ** 300, 10 ** 299), (Fraction(1), 1), Fraction(1, 2),
    ]


def wrong_forms():
    """Values that are no forms."""
    one = (1, 1)
    right = (2, 1, (((1,), (0, 1), (-1, 1)), ((2,), (1, 0), one)))
    first, second = right[2]
    wrong = junk() + [(), (2, 1), (2, 1, (), ()), [2, 1, ()], list(right), (2, 1, list(right[2])), (right,), right[2]]
    wrong += [(True, 0, ()), (1, True, ()), (False, 0, ()), (2, False, ()), (None, 0, ()), (2, None, ()), (2, 1, None)]
    wrong += [(4, 0, ()), (-1, 0, ()), (-1, -1, ()), (2, 3, ()), (2, -1, ()), (0, 1, ()), (10 ** 300, 0, ()), (3, 10 ** 300, ())]
    wrong += [("2", 1, ()), (2, "1", ()), (2, 1, ""), (2, 1, {}), (2, 1, "ab"), ((2,), 1, ()), (2, (1,), ()), (2, 1, 0)]
    wrong += [(2, 1, (second, first)), (2, 1, (first, first)), (2, 1, (first, second, second)), (2, 1, (first, None))]
    wrong += [(2, 1, (first, (*first[:2], (5, 1)))), (2, 1, ((),)), (2, 1, (None,)), (2, 1, (first[:2],)), (2, 1, ((*first, 1),))]
    wrong += [(2, 1, ((1, (0, 1), one),)), (2, 1, (([1], (0, 1), one),)), (2, 1, (((0,), (0, 1), one),))]
    wrong += [(2, 1, (((3,), (0, 1), one),)), (2, 1, (((True,), (0, 1), one),)), (2, 1, (((), (0, 1), one),))]
    wrong += [(2, 1, (((1, 2), (0, 1), one),)), (2, 2, (((2, 1), (0, 1), one),)), (2, 2, (((1, 1), (0, 1), one),))]
    wrong += [(2, 1, (((1,), 0, one),)), (2, 1, (((1,), [0, 1], one),)), (2, 1, (((1,), (0,), one),))]
    wrong += [(2, 1, (((1,), (0, 1, 0), one),)), (2, 1, (((1,), (0, -1), one),)), (2, 1, (((1,), (0, True), one),))]
    wrong += [(2, 1, (((1,), (False, 0), one),)), (2, 1, (((1,), (0, None), one),)), (2, 1, (((1,), (), one),))]
    wrong += [(2, 1, (list(first), second)), (2, 1, ((None, (0, 1), one),)), (2, 1, (((1,), None, one),))]
    wrong += [(2, 0, (((), (1,), one),)), (0, 0, (((), (0,), one),)), (0, 0, (((), (), one), ((), (), one)))]
    wrong += [(3, 2, (((1, 3), (0, 0, 0), one), ((1, 2), (0, 0, 0), one))), (2, 1, (((1,), (0, 1), (0, 1)),))]
    wrong += [(1, 0, (((), (0,), fraction),)) for fraction in wrong_fractions()]
    wrong += [(0, 0, (((), (), fraction),)) for fraction in ((0, 1), (2, 2), (1, 0), (1, -1), [1, 1], True)]
    wrong += [deep(12, lambda value: (2, 1, value)), deep(12, lambda value: (0, 0, (value,)))]
    return wrong


def as_pair(number):
    """A number as this package tells it."""
    return (Fraction(number).numerator, Fraction(number).denominator)


def number(pair):
    """A fraction of this package as a number."""
    return Fraction(pair[0], pair[1])


def all_pairs(dimension, sort, degree):
    """All pairs (AXES, POWERS) of a cell with powers up to the degree, in order."""
    powers = [each for each in product(range(degree + 1), repeat=dimension) if sum(each) <= degree]
    return [(axes, each) for axes in combinations(range(1, dimension + 1), sort) for each in powers]


def form_of_numbers(dimension, sort, numbers):
    """The form with numbers by pairs."""
    pairs = sorted(pair for pair in numbers if numbers[pair] != 0)
    return (dimension, sort, tuple((*pair, as_pair(numbers[pair])) for pair in pairs))


def numbers_of_form(form):
    """The numbers of a form by pairs."""
    return {(axes, powers): number(fraction) for axes, powers, fraction in form[2]}


def made_form(chance, dimension, sort, degree, many=5, height=9):
    """Some form; now and then with fewer terms than told, even nought."""
    pairs = all_pairs(dimension, sort, degree)
    chosen = chance.sample(pairs, min(len(pairs), chance.randint(0, many)))
    numbers = {pair: Fraction(chance.randint(-height, height), chance.randint(1, height)) for pair in chosen}
    return form_of_numbers(dimension, sort, numbers)


def made_forms(chance, dimension, sort, degree, many, height=9):
    """A tuple of some forms."""
    return tuple(made_form(chance, dimension, sort, degree, height=height) for _ in range(many))


def chances(*names):
    """A source of choices that is the same each time."""
    return random.Random(repr(names))


def together(forms, numbers):
    """The sum of forms times numbers."""
    found = {}
    for form, factor in zip(forms, numbers):
        for pair, worth in numbers_of_form(form).items():
            found[pair] = found.get(pair, 0) + worth * factor
    return form_of_numbers(forms[0][0], forms[0][1], found)


def determinant(rows):
    """By all permutations."""
    total = 0
    for order in permutations(range(len(rows))):
        worth = sign_of(order)
        for at, other in enumerate(order):
            worth *= rows[at][other]
        total += worth
    return total


def sign_of(order):
    """- 1 for an odd permutation."""
    return (-1) ** sum(one > other for one, other in combinations(order, 2))


def value_at(form, place, arrows):
    """What a form tells at a place of as many arrows as its sort tells."""
    total = Fraction(0)
    for axes, powers, fraction in form[2]:
        worth = number(fraction)
        for power, where in zip(powers, place):
            worth *= Fraction(where) ** power
        total += worth * determinant([[arrow[axis - 1] for axis in axes] for arrow in arrows])
    return total


def product_at(form, other, place, arrows):
    """What the product of two forms tells, by all ways to deal the arrows out."""
    total, many = Fraction(0), form[1]
    for chosen in combinations(range(len(arrows)), many):
        rest = tuple(at for at in range(len(arrows)) if at not in chosen)
        worth = value_at(form, place, [arrows[at] for at in chosen]) * value_at(other, place, [arrows[at] for at in rest])
        total += sign_of(chosen + rest) * worth
    return total


def made_place(chance, dimension):
    """Some place, or some arrow."""
    return tuple(Fraction(chance.randint(-5, 5), chance.randint(1, 4)) for _ in range(dimension))


def led_arrow(places, arrow):
    """The arrow that a straight map makes of one."""
    steps = [[far - near for far, near in zip(place, places[0])] for place in places[1:]]
    return tuple(sum((worth * step[at] for worth, step in zip(arrow, steps)), Fraction(0)) for at in range(len(places[0])))


def led_place(places, place):
    """The place to which a straight map leads one."""
    return tuple(begin + more for begin, more in zip(places[0], led_arrow(places, place)))


def integral(polynomial, dimension):
    """The integral over the cell, a number after another: x_n from 0 to 1 less the others, and so on."""
    while dimension > 0:
        found = {}
        for powers, worth in polynomial.items():
            last = powers[-1] + 1
            for way in deal(last, dimension):
                rest = tuple(power + more for power, more in zip(powers[:-1], way))
                many, sign = multinomial(last, way), (-1) ** sum(way)
                found[rest] = found.get(rest, 0) + worth * many * sign / last
        polynomial, dimension = found, dimension - 1
    return polynomial.get((), Fraction(0))


def deal(most, parts):
    """The powers of the numbers but the first, 1, in (1 - x_1 - .. )^most."""
    return [each for each in product(range(most + 1), repeat=parts - 1) if sum(each) <= most]


def multinomial(many, way):
    """In how many ways a product of `many` factors has these powers."""
    found, left = 1, many
    for part in way:
        found *= comb(left, part)
        left -= part
    return found


def rank_of_numbers(rows):
    """How many dicts of numbers are free: by elimination in fractions, the longest key first."""
    rows, rank = [dict(row) for row in rows], 0
    while rows:
        row = {key: worth for key, worth in rows.pop().items() if worth != 0}
        if not row:
            continue
        rank += 1
        key = max(row)
        for other in rows:
            factor = other.get(key, 0) / row[key]
            if factor != 0:
                for each, worth in row.items():
                    other[each] = other.get(each, 0) - factor * worth
    return rank


def rank_of_forms(forms):
    """How many forms are free."""
    return rank_of_numbers([numbers_of_form(form) for form in forms])


def is_in_stairs(forms):
    """Whether forms are a base in stairs, as the words tell."""
    firsts = [form[2][0] for form in forms if form[2]]
    if len(firsts) < len(forms) or any(first[2] != (1, 1) for first in firsts):
        return False
    pairs = [first[:2] for first in firsts]
    if any(not low < high for low, high in zip(pairs, pairs[1:])):
        return False
    return all(term[:2] not in pairs for form in forms for term in form[2][1:])


def same_span(forms, others):
    """Whether two tuples of forms, perhaps empty, have one span."""
    return rank_of_forms(forms) == rank_of_forms(others) == rank_of_forms(tuple(forms) + tuple(others))


def corner(dimension, index):
    """The place of a corner."""
    return tuple(Fraction(int(axis == index)) for axis in range(1, dimension + 1))


def bent(value):
    """The value with one thing bent, at each of its places: what it stands for is wrong wherever that is."""
    found = [None, True, False, [value], (value,), str(value)]
    if isinstance(value, tuple):
        found += [0, 10 ** 399, list(value), value + (None,), (None,) + value, dict(enumerate(value))]
        for at, part in enumerate(value):
            found += [value[:at] + (wrong,) + value[at + 1:] for wrong in bent(part)]
    return found


def both_ways(call, *given):
    """What a call returns, by position and by name and each time; nothing is changed."""
    before = repr(given)
    names = call.__code__.co_varnames[:call.__code__.co_argcount]
    found = call(*given)
    assert call(**dict(reversed(list(zip(names, given))))) == found
    assert call(*given) == found and repr(given) == before
    return found


def error_of(call, *given, **named):
    """The class and the attributes of the error that a call raises; None if it raises none."""
    try:
        call(*given, **named)
    except Exception as wrong:
        return (type(wrong), vars(wrong))
    return None


class Refusals(unittest.TestCase):
    def refuses(self, error, kept, call, *given):
        """By position and by name the same error is raised, which keeps the very values; nothing is changed."""
        names = call.__code__.co_varnames[:call.__code__.co_argcount]
        with self.subTest(call=call.__name__, given=given):
            before = repr(given)
            for told in (error_of(call, *given), error_of(call, **dict(zip(names, given)))):
                self.assertIsNotNone(told)
                self.assertIs(told[0], error)
                self.assertEqual(list(told[1]), list(kept))
                for name, value in kept.items():
                    self.assertIs(told[1][name], value)
            self.assertEqual(repr(given), before)
