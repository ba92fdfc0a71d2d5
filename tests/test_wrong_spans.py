"""Wrong arguments of spans.py: which error is raised, what it keeps, and which one comes first."""

import unittest

from cellrises.errors import InvalidDegree, InvalidDimension, InvalidFace, InvalidForm, InvalidForms, InvalidSort, UnlikeForms
from cellrises.led import faces_of
from cellrises.spans import (
    base_of, closed_of, closed_stray, common, is_exact, is_within, lies_in, noughts_on_rim, rank_of, rises_of, stray_of,
    traces_of, trimmed_span, whole_span,
)
from tests.helpers import CELLS, Refusals, chances, error_of, junk, made_forms, wrong_forms

FORM = (2, 1, (((1,), (0, 1), (-1, 1)), ((2,), (1, 0), (1, 1))))
OTHER = (2, 1, (((1,), (0, 0), (1, 2)),))
POLYNOMIAL = (2, 0, (((), (1, 0), (1, 1)),))
TOP = (2, 2, (((1, 2), (0, 0), (1, 1)),))
SINGLE = (base_of, rank_of, rises_of, closed_of, noughts_on_rim)
PAIRED = (lies_in, stray_of, common)
STEPPED = (is_exact, closed_stray)


def no_tuples_of_forms():
    """Values that are no tuples with elements."""
    return [each for each in junk() if not isinstance(each, tuple)] + [(), [FORM], [FORM, FORM], {FORM: FORM}]


def wrong_tuples():
    """Tuples with the index of the first element that is wrong, by itself or beside those before it."""
    found = [((FORM,) * 3 + (wrong, FORM, None), 3) for wrong in wrong_forms()]
    found += [((wrong, FORM), 0) for wrong in wrong_forms()] + [((wrong,), 0) for wrong in wrong_forms()]
    found += [((FORM, POLYNOMIAL), 1), ((POLYNOMIAL, FORM), 1), ((FORM, OTHER, TOP, None), 2), ((FORM, (1, 1, ())), 1)]
    found += [((FORM, FORM, (3, 1, ()), (2, 0, ())), 2), ((None, POLYNOMIAL, FORM), 0), ((FORM, (FORM,)), 1)]
    found += [((FORM,) * 199 + ((2, 0, ()),), 199), (FORM, 0), (FORM[2], 0), (((FORM,),), 0)]
    return found


class Forms(Refusals):
    def test_no_tuples(self):
        for wrong in no_tuples_of_forms():
            for call in SINGLE:
                self.refuses(InvalidForms, {"index": None}, call, wrong)
            for call in PAIRED + STEPPED:
                self.refuses(InvalidForms, {"index": None}, call, wrong, (FORM,))
                self.refuses(InvalidForms, {"index": None}, call, (FORM,), wrong)
                self.refuses(InvalidForms, {"index": None}, call, wrong, (None,))
            self.refuses(InvalidForms, {"index": None}, is_within, wrong, FORM)
            self.refuses(InvalidForms, {"index": None}, is_within, wrong, None)
            self.refuses(InvalidForms, {"index": None}, traces_of, wrong, (0, 1))
            self.refuses(InvalidForms, {"index": None}, traces_of, wrong, None)

    def test_wrong_elements(self):
        for wrong, index in wrong_tuples():
            for call in SINGLE:
                self.refuses(InvalidForms, {"index": index}, call, wrong)
            for call in PAIRED + STEPPED:
                self.refuses(InvalidForms, {"index": index}, call, wrong, (TOP,))
                self.refuses(InvalidForms, {"index": index}, call, (POLYNOMIAL,), wrong)
                self.refuses(InvalidForms, {"index": index}, call, wrong, None)
                self.refuses(InvalidForms, {"index": index}, call, wrong, ())
            self.refuses(InvalidForms, {"index": index}, is_within, wrong, TOP)
            self.refuses(InvalidForms, {"index": index}, is_within, wrong, True)
            self.refuses(InvalidForms, {"index": index}, traces_of, wrong, (0, 1))
            self.refuses(InvalidForms, {"index": index}, traces_of, wrong, [0])

    def test_rises_of_the_highest_sort(self):
        for dimension in range(4):
            for forms in (((dimension, dimension, ()),), made_forms(chances("top", dimension), dimension, dimension, 2, 3)):
                self.refuses(InvalidForms, {"index": 0}, rises_of, forms)
        self.refuses(InvalidForms, {"index": 1}, rises_of, (TOP, None))
        self.refuses(InvalidForms, {"index": 2}, rises_of, (TOP, TOP, FORM))


class OneForm(Refusals):
    def test_no_form(self):
        for wrong in wrong_forms():
            self.refuses(InvalidForm, {"given": wrong}, is_within, (FORM,), wrong)
            self.refuses(InvalidForm, {"given": wrong}, is_within, (POLYNOMIAL,), wrong)

    def test_unlike(self):
        for cell in CELLS:
            for other in CELLS:
                if cell != other:
                    self.refuses(UnlikeForms, {}, is_within, ((*cell, ()),), (*other, ()))


class TwoSpans(Refusals):
    def test_unlike(self):
        for cell in CELLS:
            for other in CELLS:
                forms, others = ((*cell, ()), (*cell, ())), ((*other, ()),)
                for call in PAIRED:
                    if cell != other:
                        self.refuses(UnlikeForms, {}, call, forms, others)
                    else:
                        self.assertIsNone(error_of(call, forms, others))
                for call in STEPPED:
                    if cell[0] != other[0] or cell[1] + 1 != other[1]:
                        self.refuses(UnlikeForms, {}, call, forms, others)
                    else:
                        self.assertIsNone(error_of(call, forms, others))


class Faces(Refusals):
    def test_no_face(self):
        for wrong in junk() + [(), (0, 0), (1, 0), (0, 3), (-1, 0), (True, 2), [0, 1], (0, 1, 2, 3)]:
            self.refuses(InvalidFace, {"given": wrong}, traces_of, (FORM, OTHER), wrong)

    def test_face_of_a_dimension_below_the_sort(self):
        for dimension, sort in CELLS:
            for face in faces_of(dimension, 0):
                if len(face) - 1 < sort:
                    self.refuses(InvalidFace, {"given": face}, traces_of, ((dimension, sort, ()),), face)


class ToldSpans(Refusals):
    NO_NUMBERS = [each for each in junk() if type(each) is not int] + ["2", (2,), [2], 10 ** 399, -1, -10 ** 399]

    def test_dimension(self):
        for call in (whole_span, trimmed_span):
            for wrong in self.NO_NUMBERS + [4]:
                self.refuses(InvalidDimension, {"given": wrong}, call, wrong, 1, 0)
                self.refuses(InvalidDimension, {"given": wrong}, call, wrong, True, None)

    def test_degree(self):
        for dimension in range(4):
            for wrong in self.NO_NUMBERS + [5]:
                for call in (whole_span, trimmed_span):
                    self.refuses(InvalidDegree, {"given": wrong}, call, dimension, wrong, 0)
                    self.refuses(InvalidDegree, {"given": wrong}, call, dimension, wrong, 9)
            for sort in range(dimension + 1):
                self.refuses(InvalidDegree, {"given": 0}, trimmed_span, dimension, 0, sort)
                self.assertIsNone(error_of(whole_span, dimension, 0, sort))
            self.refuses(InvalidDegree, {"given": 0}, trimmed_span, dimension, 0, None)

    def test_sort(self):
        for call in (whole_span, trimmed_span):
            for dimension in range(4):
                for wrong in self.NO_NUMBERS + [dimension + 1, 4]:
                    self.refuses(InvalidSort, {"given": wrong}, call, dimension, 1, wrong)
                    self.refuses(InvalidSort, {"given": wrong}, call, dimension, 4, wrong)
        self.refuses(InvalidSort, {"given": True}, whole_span, 2, 0, True)
        self.refuses(InvalidSort, {"given": False}, trimmed_span, 0, 1, False)


if __name__ == "__main__":
    unittest.main()
