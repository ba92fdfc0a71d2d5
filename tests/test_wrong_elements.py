"""Wrong arguments of elements.py and measured.py: which error is raised, what it keeps, and which one comes first."""

import unittest

from cellrises.elements import living_on, settles_cell, told_element, told_tests, weights_of
from cellrises.errors import (
    InvalidDegree, InvalidDimension, InvalidElement, InvalidFace, InvalidForm, InvalidKind, InvalidSort, NotSettled,
    UnlikeElements,
)
from cellrises.measured import keeps_rises, measured, parting_form
from tests.helpers import CELLS, Refusals, error_of, junk, wrong_forms
from tests.weighing import DOT, ONE, changed, faces, wrong_elements

PLAIN, RISING = (1, 0, (((), (0,), ONE),)), (1, 0, (((), (1,), ONE),))
ALONG = (1, 1, (((1,), (0,), ONE),))
HAT, LINE = ((PLAIN, RISING), ((DOT,), ())), ((ALONG,), ((), (PLAIN,)))
UNSETTLED, UNSETTLED_LINE = (HAT[0], ((), (ALONG,))), (LINE[0], ((), (PLAIN, RISING)))
TOLD = (told_tests, told_element)
RISEN = (keeps_rises, parting_form)
NO_NUMBERS = [each for each in junk() if type(each) is not int] + ["2", (2,), [2], 10 ** 399, -1, -10 ** 399]


def power(sort, degree):
    """A form of the dimension 1 of one term of a degree."""
    return (1, sort, ((tuple(range(1, sort + 1)), (degree,), ONE),))


class ToldArguments(Refusals):
    def test_kind(self):
        lots = [each for each in junk() if each not in ("whole", "trimmed")]
        for wrong in lots + ["Whole", "WHOLE", "whole ", "trim", "trimme", "w", b"whole", ("whole",), ["trimmed"]]:
            for call in TOLD:
                self.refuses(InvalidKind, {"given": wrong}, call, wrong, 2, 1, 1)
                self.refuses(InvalidKind, {"given": wrong}, call, wrong, 0, None, 9)

    def test_dimension(self):
        for wrong in NO_NUMBERS + [0, 4, 5]:
            for call in TOLD:
                self.refuses(InvalidDimension, {"given": wrong}, call, "whole", wrong, 1, 0)
                self.refuses(InvalidDimension, {"given": wrong}, call, "trimmed", wrong, None, None)

    def test_degree(self):
        for dimension in (1, 2, 3):
            for wrong in NO_NUMBERS + [5]:
                for call in TOLD:
                    self.refuses(InvalidDegree, {"given": wrong}, call, "whole", dimension, wrong, dimension)
                    self.refuses(InvalidDegree, {"given": wrong}, call, "trimmed", dimension, wrong, 9)
            for sort in (*range(dimension + 1), None, 9):
                for call in TOLD:
                    self.refuses(InvalidDegree, {"given": 0}, call, "trimmed", dimension, 0, sort)

    def test_sort(self):
        for dimension in (1, 2, 3):
            for wrong in NO_NUMBERS + [dimension + 1, 4]:
                for call in TOLD:
                    self.refuses(InvalidSort, {"given": wrong}, call, "whole", dimension, 1, wrong)
                    self.refuses(InvalidSort, {"given": wrong}, call, "trimmed", dimension, 4, wrong)
                    self.refuses(InvalidSort, {"given": wrong}, call, "whole", dimension, 0, wrong)

    def test_sort_beside_the_degree_0(self):
        for dimension in (1, 2, 3):
            for call in TOLD:
                for sort in range(dimension):
                    self.refuses(InvalidSort, {"given": sort}, call, "whole", dimension, 0, sort)
                    self.assertIsNone(error_of(call, "whole", dimension, 1, sort))
                    self.assertIsNone(error_of(call, "trimmed", dimension, 1, sort))
                self.assertIsNone(error_of(call, "whole", dimension, 0, dimension))


class Elements(Refusals):
    def test_no_element(self):
        for wrong in wrong_elements():
            self.refuses(InvalidElement, {"given": wrong}, weights_of, wrong)
            self.refuses(InvalidElement, {"given": wrong}, settles_cell, wrong)
            self.refuses(InvalidElement, {"given": wrong}, living_on, wrong, (0,))
            self.refuses(InvalidElement, {"given": wrong}, measured, wrong, PLAIN)

    def test_no_element_comes_first(self):
        for wrong in wrong_elements()[::7]:
            self.refuses(InvalidElement, {"given": wrong}, living_on, wrong, None)
            self.refuses(InvalidElement, {"given": wrong}, measured, wrong, None)
            for call in RISEN:
                self.refuses(InvalidElement, {"given": wrong}, call, wrong, LINE)
                self.refuses(InvalidElement, {"given": wrong}, call, wrong, None)
                self.refuses(InvalidElement, {"given": wrong}, call, HAT, wrong)
                self.refuses(InvalidElement, {"given": wrong}, call, UNSETTLED, wrong)
                self.refuses(InvalidElement, {"given": wrong}, call, LINE, wrong)

    def test_tests_of_a_degree_above_4_where_it_matters(self):
        for sort in (0, 1):
            for degree in (5, 6, 12):
                forms, test = (power(sort, 0),), power(1 - sort, degree)
                for tests in ((test,), (power(1 - sort, 4), test), (power(1 - sort, 0), test, power(1 - sort, 1))):
                    high = (forms, ((), tests))
                    self.assertIsNone(error_of(weights_of, high))
                    self.assertIsNone(error_of(settles_cell, high))
                    self.refuses(InvalidElement, {"given": high}, measured, high, forms[0])
                    self.refuses(InvalidElement, {"given": high}, measured, high, None)
                    for call in RISEN:
                        self.refuses(InvalidElement, {"given": high}, call, high, LINE)
                        self.refuses(InvalidElement, {"given": high}, call, high, None)
                        self.refuses(InvalidElement, {"given": high}, call, HAT, high)
                        self.refuses(InvalidElement, {"given": high}, call, UNSETTLED, high)
        both = ((PLAIN,), ((), ((1, 1, (((1,), (1,), ONE), ((1,), (5,), ONE))),)))
        self.refuses(InvalidElement, {"given": both}, measured, both, PLAIN)
        self.assertIsNone(error_of(measured, ((power(0, 12),), ((), (power(1, 4),))), power(0, 12)))
        spread = (2, 1, (((1,), (2, 2), ONE),))
        self.assertIsNone(error_of(measured, (((2, 1, (((2,), (0, 0), ONE),)),), ((), (), (spread,))), spread))
        for wide in ((2, 1, (((1,), (3, 2), ONE),)), (2, 1, (((1,), (0, 0), ONE), ((2,), (1, 4), ONE)))):
            element = (((2, 1, (((2,), (0, 0), ONE),)),), ((), (), (wide,)))
            self.refuses(InvalidElement, {"given": element}, measured, element, spread)

    def test_on_any_cell(self):
        element = told_element("whole", 2, 2, 0)
        for own in (1, 2):
            test = (own, own, ((tuple(range(1, own + 1)), (5,) + (0,) * (own - 1), ONE),))
            high = changed(element, own, (test,))
            self.assertIsNone(error_of(settles_cell, high))
            self.refuses(InvalidElement, {"given": high}, measured, high, element[0][0])


class Faces(Refusals):
    def test_face(self):
        for told in (("whole", 1, 1, 0), ("trimmed", 2, 1, 1), ("whole", 3, 0, 3)):
            dimension = told[1]
            for wrong in junk() + [(), (0, 0), (1, 0), (dimension + 1,), (0, dimension + 1), (-1, 0), (True,), [0], {0: 0}, ((0,),)]:
                self.refuses(InvalidFace, {"given": wrong}, living_on, told_element(*told), wrong)
        for wrong in (None, (2,), [0], (0, 1, 2)):
            self.refuses(InvalidFace, {"given": wrong}, living_on, UNSETTLED, wrong)

    def test_last_that_it_does_not_settle(self):
        for element in (UNSETTLED, UNSETTLED_LINE, (HAT[0], ((), ())), (HAT[0], (((0, 0, ()),), ())), (HAT[0][:1], HAT[1])):
            for face in faces(1, 0):
                self.refuses(NotSettled, {}, living_on, element, face)


class MeasuredForms(Refusals):
    def test_form(self):
        for wrong in wrong_forms():
            self.refuses(InvalidForm, {"given": wrong}, measured, told_element("trimmed", 2, 1, 1), wrong)
            self.refuses(InvalidForm, {"given": wrong}, measured, UNSETTLED, wrong)

    def test_forms_of_other_cells_and_sorts(self):
        for dimension, sort in CELLS:
            if dimension > 0:
                for cell in CELLS:
                    form = (*cell, ())
                    told = error_of(measured, told_element("trimmed", dimension, 1, sort), form)
                    self.assertEqual(told, None if cell == (dimension, sort) else (InvalidForm, {"given": form}))

    def test_last_that_it_does_not_settle(self):
        for element in (UNSETTLED, (HAT[0], ((), ())), (HAT[0], ((DOT, DOT), ())), (HAT[0][:1], HAT[1])):
            for form in (PLAIN, RISING, (1, 0, ())):
                self.refuses(NotSettled, {}, measured, element, form)


class TwoElements(Refusals):
    def test_unlike(self):
        for dimension, sort in CELLS:
            for other, own in CELLS:
                if 0 < dimension and 0 < other:
                    first, second = told_element("trimmed", dimension, 1, sort), told_element("trimmed", other, 1, own)
                    for call in RISEN:
                        if dimension == other and sort + 1 == own:
                            self.assertIsNone(error_of(call, first, second))
                        else:
                            self.refuses(UnlikeElements, {}, call, first, second)

    def test_unlike_comes_ahead_of_not_settled(self):
        for call in RISEN:
            self.refuses(UnlikeElements, {}, call, UNSETTLED, HAT)
            self.refuses(UnlikeElements, {}, call, HAT, UNSETTLED)
            self.refuses(UnlikeElements, {}, call, UNSETTLED_LINE, LINE)
            self.refuses(UnlikeElements, {}, call, UNSETTLED, told_element("whole", 2, 1, 1))

    def test_not_settled(self):
        for call in RISEN:
            self.refuses(NotSettled, {}, call, UNSETTLED, LINE)
            self.refuses(NotSettled, {}, call, HAT, UNSETTLED_LINE)
            self.refuses(NotSettled, {}, call, UNSETTLED, UNSETTLED_LINE)
            self.refuses(NotSettled, {}, call, HAT, (LINE[0], ((), ())))
            self.refuses(NotSettled, {}, call, (HAT[0][:1], HAT[1]), LINE)


if __name__ == "__main__":
    unittest.main()
