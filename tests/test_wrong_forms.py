"""Wrong arguments of forms.py and led.py: which error is raised, what it keeps, and which one comes first."""

import unittest

from cellrises.errors import (
    InvalidCorners, InvalidDimension, InvalidFace, InvalidForm, InvalidFraction, InvalidNumber, UnlikeForms,
)
from cellrises.forms import degree_of, lowered, plus, product, rise, sum_of, times_number
from cellrises.led import faces_of, is_face, led, sum_over, trace
from tests.helpers import CELLS, Refusals, bent, chances, error_of, junk, made_form, wrong_forms, wrong_fractions

ONE = (1, 1)
FORM = (2, 1, (((1,), (0, 1), (-1, 1)), ((2,), (1, 0), ONE)))
POLYNOMIAL = (2, 0, (((), (1, 0), ONE),))


class OneForm(Refusals):
    def test_no_form(self):
        for wrong in wrong_forms():
            for call in (degree_of, rise, lowered, sum_of):
                self.refuses(InvalidForm, {"given": wrong}, call, wrong)
            self.refuses(InvalidForm, {"given": wrong}, times_number, wrong, ONE)
            self.refuses(InvalidForm, {"given": wrong}, trace, wrong, (0, 1))

    def test_rise_of_the_highest_sort(self):
        for dimension in range(4):
            chance = chances("wrong rise", dimension)
            for form in ((dimension, dimension, ()), made_form(chance, dimension, dimension, 3)):
                self.refuses(InvalidForm, {"given": form}, rise, form)

    def test_lowered_of_sort_0(self):
        for dimension in range(4):
            chance = chances("wrong lowered", dimension)
            for form in ((dimension, 0, ()), made_form(chance, dimension, 0, 3)):
                self.refuses(InvalidForm, {"given": form}, lowered, form)

    def test_sum_of_lower_sorts(self):
        for dimension, sort in CELLS:
            chance = chances("wrong sum", dimension, sort)
            if sort < dimension:
                for form in ((dimension, sort, ()), made_form(chance, dimension, sort, 3)):
                    self.refuses(InvalidForm, {"given": form}, sum_of, form)


class Fractions(Refusals):
    def test_no_fraction(self):
        for wrong in wrong_fractions():
            self.refuses(InvalidFraction, {"given": wrong}, times_number, FORM, wrong)
            self.refuses(InvalidFraction, {"given": wrong}, times_number, (0, 0, ()), wrong)

    def test_form_first(self):
        for wrong in wrong_forms():
            self.refuses(InvalidForm, {"given": wrong}, times_number, wrong, (2, 4))


class TwoForms(Refusals):
    def test_no_forms(self):
        for call in (plus, product):
            for wrong in wrong_forms():
                self.refuses(InvalidForm, {"given": wrong}, call, wrong, POLYNOMIAL)
                self.refuses(InvalidForm, {"given": wrong}, call, POLYNOMIAL, wrong)
                self.refuses(InvalidForm, {"given": wrong}, call, wrong, [None])

    def test_unlike_sums(self):
        for cell in CELLS:
            for other in CELLS:
                if cell != other:
                    self.refuses(UnlikeForms, {}, plus, (*cell, ()), (*other, ()))
        self.refuses(UnlikeForms, {}, plus, FORM, POLYNOMIAL)

    def test_unlike_products(self):
        for cell in CELLS:
            for other in CELLS:
                if cell[0] != other[0] or cell[1] + other[1] > cell[0]:
                    self.refuses(UnlikeForms, {}, product, (*cell, ()), (*other, ()))
        self.refuses(UnlikeForms, {}, product, (1, 1, (((1,), (0,), ONE),)), (1, 1, (((1,), (0,), ONE),)))


class Faces(Refusals):
    def test_is_face_refuses_dimensions_alone(self):
        for wrong in [each for each in junk() if type(each) is not int] + [4, -1, 10 ** 300]:
            self.refuses(InvalidDimension, {"given": wrong}, is_face, wrong, (0,))
            self.refuses(InvalidDimension, {"given": wrong}, is_face, wrong, None)

    def test_faces_of(self):
        for wrong in [each for each in junk() if type(each) is not int] + [4, -1, 10 ** 300]:
            self.refuses(InvalidDimension, {"given": wrong}, faces_of, wrong, 0)
            self.refuses(InvalidDimension, {"given": wrong}, faces_of, wrong, None)
            for dimension in range(4):
                self.refuses(InvalidNumber, {"given": wrong}, faces_of, dimension, wrong)
        for dimension in range(3):
            least = dimension + 1
            self.refuses(InvalidNumber, {"given": least}, faces_of, dimension, least)

    def test_no_face(self):
        for wrong in junk() + [(), (0, 0), (1, 0), (0, 3), (-1, 0), (True, 2), (0, True), [0, 1], (0, "1"), (0, 1, 2, 3)]:
            self.refuses(InvalidFace, {"given": wrong}, trace, FORM, wrong)

    def test_face_of_a_dimension_below_the_sort(self):
        for dimension, sort in CELLS:
            for face in faces_of(dimension, 0):
                form = (dimension, sort, ())
                if len(face) - 1 < sort:
                    self.refuses(InvalidFace, {"given": face}, trace, form, face)
                else:
                    self.assertIsNone(error_of(trace, form, face))

    def test_form_first(self):
        for wrong in wrong_forms():
            self.refuses(InvalidForm, {"given": wrong}, trace, wrong, None)
            self.refuses(InvalidForm, {"given": wrong}, sum_over, wrong, None)
            self.refuses(InvalidForm, {"given": wrong}, sum_over, wrong, (0, 1))

    def test_no_face_to_sum_over(self):
        for wrong in junk() + [(), (0, 0), (1, 0), (0, 3), (-1, 0), (True, 2), (0, True), [0, 1], (0, "1"), (0, 1, 2, 3)]:
            self.refuses(InvalidFace, {"given": wrong}, sum_over, FORM, wrong)

    def test_a_face_of_another_dimension_than_the_sort(self):
        for dimension, sort in CELLS:
            for face in faces_of(dimension, 0):
                form = (dimension, sort, ())
                if len(face) - 1 != sort:
                    self.refuses(InvalidFace, {"given": face}, sum_over, form, face)
                else:
                    self.assertIsNone(error_of(sum_over, form, face))


class Corners(Refusals):
    RIGHT = (((0, 1), (1, 2)), ((-2, 3), (0, 1)), ((5, 1), (1, 1)))

    def test_no_places(self):
        wrong = junk() + bent(self.RIGHT) + [(), self.RIGHT[:1], self.RIGHT[0], self.RIGHT + self.RIGHT[:2], self.RIGHT * 2]
        wrong += [self.RIGHT[:2] + (((0, 1),),), self.RIGHT[:2] + (((0, 1),) * 3,), self.RIGHT[:2] + ((),)]
        wrong += [self.RIGHT[:2] + (((0, 1), each),) for each in wrong_fractions()]
        wrong += [(((0, 1), each), *self.RIGHT[1:]) for each in wrong_fractions()[::3]]
        for each in wrong:
            self.refuses(InvalidCorners, {"given": each}, led, FORM, each)

    def test_as_many_as_the_form_wants(self):
        for dimension, sort in CELLS:
            for many in range(7):
                for size in range(5):
                    places = (((1, 2),) * size,) * many
                    if size == dimension and sort < many < 5:
                        self.assertIsNone(error_of(led, (dimension, sort, ()), places))
                    else:
                        self.refuses(InvalidCorners, {"given": places}, led, (dimension, sort, ()), places)

    def test_form_first(self):
        for wrong in wrong_forms():
            self.refuses(InvalidForm, {"given": wrong}, led, wrong, self.RIGHT)
            self.refuses(InvalidForm, {"given": wrong}, led, wrong, None)


if __name__ == "__main__":
    unittest.main()
