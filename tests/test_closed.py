"""Closed forms, and the forms whose rises they are."""

import unittest
from fractions import Fraction

from cellrises.closed import is_closed, risen_from
from cellrises.errors import InvalidForm
from cellrises.forms import degree_of, is_form, lowered, plus, product, rise, times_number
from cellrises.led import led, trace
from cellrises.spans import trimmed_span, whole_span
from tests.helpers import (
    CELLS, Refusals, as_pair, both_ways, chances, form_of_numbers, made_form, made_place, numbers_of_form, together, wrong_forms,
)
from tests.weighing import faces

ONE = (1, 1)
BIG = (10 ** 299 + 7, 10 ** 300 + 9)
TURN = (2, 1, (((1,), (0, 1), (-1, 1)), ((2,), (1, 0), ONE)))
ASIDE = (2, 1, (((2,), (0, 0), ONE),))
FLAT = (2, 2, (((1, 2), (0, 0), ONE),))
RISEN = [(dimension, sort) for dimension, sort in CELLS if sort > 0]


def rise_by_terms(form):
    """The rise, worked out from the numbers of its terms."""
    found = {}
    for (axes, powers), worth in numbers_of_form(form).items():
        for axis in range(1, form[0] + 1):
            if axis not in axes and powers[axis - 1] > 0:
                less = tuple(power - (at == axis) for at, power in enumerate(powers, start=1))
                sign = (-1) ** sum(other < axis for other in axes)
                pair = (tuple(sorted((*axes, axis))), less)
                found[pair] = found.get(pair, 0) + worth * powers[axis - 1] * sign
    return form_of_numbers(form[0], form[1] + 1, found)


def made_closed(chance, dimension, sort, degree=4):
    """Some closed form of a sort from 1 on."""
    return rise_by_terms(made_form(chance, dimension, sort - 1, degree))


class Closed(unittest.TestCase):
    def test_if_the_rise_is_nought(self):
        seen = {True: 0, False: 0}
        for dimension, sort in CELLS:
            chance = chances("closed", dimension, sort)
            for degree in (0, 0, 1, 1, 2, 3, 4):
                form = made_form(chance, dimension, sort, degree)
                found = both_ways(is_closed, form)
                self.assertIs(found, sort == dimension or not rise_by_terms(form)[2])
                seen[found] += 1
        self.assertGreater(min(seen.values()), 10)

    def test_the_sort_that_is_the_dimension(self):
        for dimension in range(4):
            for degree in (0, 3, 12):
                self.assertIs(is_closed(made_form(chances("top", dimension, degree), dimension, dimension, degree)), True)

    def test_sort_0_just_numbers_alone(self):
        for dimension in range(1, 4):
            chance = chances("alone", dimension)
            self.assertIs(is_closed((dimension, 0, ())), True)
            self.assertIs(is_closed((dimension, 0, (((), (0,) * dimension, BIG),))), True)
            for degree in (1, 2, 5):
                form = made_form(chance, dimension, 0, degree)
                self.assertIs(is_closed(form), degree_of(form) in (None, 0))
                last = (0,) * (dimension - 1) + (degree,)
                self.assertIs(is_closed((dimension, 0, (((), last, (1, 10 ** 300)),))), False)
        self.assertIs(is_closed((0, 0, (((), (), (5, 2)),))), True)

    def test_nought(self):
        for dimension, sort in CELLS:
            self.assertIs(is_closed((dimension, sort, ())), True)

    def test_rises_are_closed(self):
        for dimension, sort in RISEN:
            form = made_closed(chances("rises", dimension, sort), dimension, sort)
            self.assertIs(is_closed(form), True)
            self.assertEqual(rise(made_form(chances("rises", dimension, sort), dimension, sort - 1, 4)), form)

    def test_by_hand(self):
        self.assertEqual([is_closed(TURN), is_closed(ASIDE), is_closed(FLAT)], [False, True, True])
        self.assertIs(is_closed((3, 1, (((1,), (0, 1, 0), ONE), ((2,), (1, 0, 0), ONE)))), True)
        self.assertIs(is_closed((3, 2, (((1, 2), (0, 0, 1), ONE), ((1, 3), (0, 1, 0), ONE)))), True)
        self.assertIs(is_closed((3, 2, (((1, 2), (0, 0, 1), ONE), ((1, 3), (0, 1, 0), (-1, 1))))), False)

    def test_led_closed_forms_are_closed(self):
        for dimension, sort in RISEN:
            chance = chances("led closed", dimension, sort)
            form = made_closed(chance, dimension, sort)
            for many in range(sort + 1, 5):
                places = tuple(tuple(as_pair(worth) for worth in made_place(chance, dimension)) for _ in range(many))
                self.assertIs(is_closed(led(form, places)), True)
            for face in faces(dimension, sort):
                self.assertIs(is_closed(trace(form, face)), True)

    def test_products_of_closed_forms_are_closed(self):
        for dimension, sort in RISEN:
            for other in range(1, dimension - sort + 1):
                chance = chances("products", dimension, sort, other)
                form, more = made_closed(chance, dimension, sort), made_closed(chance, dimension, other)
                self.assertIs(is_closed(product(form, more)), True)


class RisenFrom(unittest.TestCase):
    def test_just_closed_forms_are_rises(self):
        seen = {True: 0, False: 0}
        for dimension, sort in RISEN:
            chance = chances("risen", dimension, sort)
            for degree in (0, 1, 1, 2, 3, 4):
                for form in (made_form(chance, dimension, sort, degree), made_closed(chance, dimension, sort, degree + 1)):
                    found = both_ways(risen_from, form)
                    seen[found is None] += 1
                    if found is None:
                        self.assertNotEqual(rise_by_terms(form)[2], ())
                    else:
                        self.assertTrue(is_form(found))
                        self.assertEqual(found[:2], (dimension, sort - 1))
                        self.assertEqual(rise_by_terms(found), form)
        self.assertGreater(min(seen.values()), 5)

    def test_by_parts_of_one_degree(self):
        for dimension, sort in RISEN:
            chance = chances("parts", dimension, sort)
            parts = [made_closed(chance, dimension, sort, degree) for degree in (1, 3, 5)]
            single = []
            for form in parts:
                for degree in {sum(term[1]) for term in form[2]}:
                    own = (dimension, sort, tuple(term for term in form[2] if sum(term[1]) == degree))
                    self.assertIs(is_closed(own), True)
                    self.assertEqual(rise(times_number(lowered(own), (1, degree + sort))), own)
                    single.append(own)
            total = together([*single, (dimension, sort, ())], [1] * len(single) + [1])
            self.assertEqual(rise(risen_from(total)), total)

    def test_nought_of_nought(self):
        for dimension, sort in RISEN:
            found = risen_from((dimension, sort, ()))
            self.assertEqual(rise(found), (dimension, sort, ()))

    def test_all_of_the_sort_that_is_the_dimension(self):
        for dimension in range(1, 4):
            form = made_form(chances("highest", dimension), dimension, dimension, 6)
            self.assertEqual(rise(risen_from(form)), form)

    def test_one_term_bent_bars(self):
        for dimension, sort in RISEN:
            if sort < dimension:
                form = made_closed(chances("bent", dimension, sort), dimension, sort, 5)
                axes = tuple(range(1, sort + 1))
                powers = (0,) * sort + (2,) + (0,) * (dimension - sort - 1)
                bent = plus(form, (dimension, sort, ((axes, powers, (1, 10 ** 200)),)))
                self.assertIs(is_closed(bent), False)
                self.assertIsNone(risen_from(bent))

    def test_by_hand(self):
        self.assertEqual(rise(risen_from(ASIDE)), ASIDE)
        self.assertIsNone(risen_from(TURN))
        self.assertEqual(rise(risen_from(FLAT)), FLAT)
        self.assertEqual(rise(risen_from((1, 1, (((1,), (2,), (1, 2)),)))), (1, 1, (((1,), (2,), (1, 2)),)))

    def test_high_degrees_and_large_numbers(self):
        for dimension, sort in RISEN:
            powers = (11,) + (1,) + (0,) * (dimension - 2) if dimension > 1 else (12,)
            axes = tuple(range(dimension - sort + 2, dimension + 1))
            form = rise((dimension, sort - 1, ((axes, powers, BIG),)))
            self.assertEqual(rise(risen_from(form)), form)
        powers = sorted((first, 12 - first - last, last) for first in range(13) for last in range(13 - first))
        terms = tuple(((), each, as_pair(Fraction(7, 10 ** 200 + at))) for at, each in enumerate(powers))
        many = rise((3, 0, terms))
        self.assertEqual(rise(risen_from(many)), many)

    def test_of_told_spans(self):
        for spans in (whole_span, trimmed_span):
            for dimension, sort in RISEN:
                for form in spans(dimension, 2, sort):
                    self.assertEqual(risen_from(form) is None, not is_closed(form))


class Wrong(Refusals):
    def test_no_form(self):
        for wrong in wrong_forms():
            self.refuses(InvalidForm, {"given": wrong}, is_closed, wrong)
            self.refuses(InvalidForm, {"given": wrong}, risen_from, wrong)

    def test_sort_0(self):
        for dimension in range(4):
            for form in ((dimension, 0, ()), (dimension, 0, (((), (0,) * dimension, ONE),))):
                self.refuses(InvalidForm, {"given": form}, risen_from, form)
        form = (2, 0, (((), (1, 0), (1, 2)),))
        self.refuses(InvalidForm, {"given": form}, risen_from, form)


if __name__ == "__main__":
    unittest.main()
