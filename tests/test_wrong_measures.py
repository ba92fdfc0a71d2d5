"""Wrong arguments of measures.py: which error is raised, what it keeps, and which one comes first."""

import unittest

from cellrises.errors import (
    InvalidDimension, InvalidForm, InvalidForms, InvalidNumbers, InvalidSort, InvalidWeight, InvalidWeights, NotSettled,
)
from cellrises.measures import (
    base_beside, form_with, is_weight, measure, missed_form, settles, table_of, tied_weights,
)
from cellrises.spans import whole_span
from tests.helpers import CELLS, Refusals, error_of, junk, wrong_forms, wrong_fractions
from tests.weighing import DOT, ONE, faces, wrong_weights

FORM = (2, 1, (((1,), (0, 1), (-1, 1)), ((2,), (1, 0), (1, 1))))
OTHER, POLYNOMIAL = (2, 1, (((1,), (0, 0), (1, 2)),)), (2, 0, (((), (1, 0), (1, 1)),))
SIDE, INSIDE = ((0, 1), (1, 0, (((), (0,), ONE),))), ((0, 1, 2), (2, 1, (((2,), (0, 0), ONE),)))
PLAIN, RISING = (1, 0, (((), (0,), ONE),)), (1, 0, (((), (1,), ONE),))
ENDS = (((0,), DOT), ((1,), DOT))
PAIRS = (table_of, settles, missed_form, tied_weights, base_beside)
NO_NUMBERS = [each for each in junk() if type(each) is not int] + ["2", (2,), [2], 10 ** 399, -1, -10 ** 399]


def weight_for(dimension, sort):
    """A weight for the sort of a cell of the dimension."""
    return (tuple(range(dimension + 1)), whole_span(dimension, 0, dimension - sort)[0])


class DimensionAndSort(Refusals):
    def test_dimension(self):
        for wrong in NO_NUMBERS + [4]:
            self.refuses(InvalidDimension, {"given": wrong}, is_weight, wrong, 0, ENDS[0])
            self.refuses(InvalidDimension, {"given": wrong}, is_weight, wrong, None, None)

    def test_sort(self):
        for dimension in range(4):
            for wrong in NO_NUMBERS + [dimension + 1, 4]:
                self.refuses(InvalidSort, {"given": wrong}, is_weight, dimension, wrong, ENDS[0])
                self.refuses(InvalidSort, {"given": wrong}, is_weight, dimension, wrong, None)


class OneForm(Refusals):
    def test_form(self):
        for wrong in wrong_forms():
            self.refuses(InvalidForm, {"given": wrong}, measure, wrong, SIDE)
            self.refuses(InvalidForm, {"given": wrong}, measure, wrong, None)

    def test_weight(self):
        for dimension, sort in CELLS:
            for wrong in wrong_weights(dimension, sort):
                self.refuses(InvalidWeight, {"given": wrong}, measure, (dimension, sort, ()), wrong)

    def test_weights_for_other_cells_and_sorts(self):
        for dimension, sort in CELLS:
            for other, own in CELLS:
                for face in faces(other, own):
                    weight = (face, (len(face) - 1, len(face) - 1 - own, ()))
                    right = own == sort and face in faces(dimension, sort)
                    told = error_of(measure, (dimension, sort, ()), weight)
                    self.assertEqual(told, None if right else (InvalidWeight, {"given": weight}))


class Forms(Refusals):
    def test_no_tuples(self):
        for wrong in [each for each in junk() if not isinstance(each, tuple)] + [(), [FORM], {FORM: FORM}, "", [PLAIN]]:
            for call in PAIRS:
                for weights in ((SIDE,), (), None):
                    self.refuses(InvalidForms, {"index": None}, call, wrong, weights)
            self.refuses(InvalidForms, {"index": None}, form_with, wrong, (SIDE,), (ONE,))
            self.refuses(InvalidForms, {"index": None}, form_with, wrong, None, None)

    def test_wrong_elements(self):
        lots = [((FORM, OTHER, wrong, None), 2) for wrong in wrong_forms()] + [((wrong,), 0) for wrong in wrong_forms()[::5]]
        lots += [((FORM, POLYNOMIAL), 1), ((POLYNOMIAL, FORM), 1), ((FORM, OTHER, (3, 1, ())), 2), ((FORM, (1, 1, ()), None), 1)]
        for wrong, index in lots:
            for call in PAIRS:
                self.refuses(InvalidForms, {"index": index}, call, wrong, (SIDE,))
            self.refuses(InvalidForms, {"index": index}, base_beside, wrong, ())
            self.refuses(InvalidForms, {"index": index}, form_with, wrong, (SIDE,), (ONE,))
            self.refuses(InvalidForms, {"index": index}, form_with, wrong, (None,), None)


class Weights(Refusals):
    def test_no_tuples(self):
        for wrong in [each for each in junk() if not isinstance(each, tuple)] + [(), [SIDE], {SIDE: SIDE}, [], [SIDE, INSIDE]]:
            for call in PAIRS:
                self.refuses(InvalidWeights, {"index": None}, call, (FORM, OTHER), wrong)
            self.refuses(InvalidWeights, {"index": None}, form_with, (FORM,), wrong, (ONE,))
            self.refuses(InvalidWeights, {"index": None}, form_with, (FORM,), wrong, None)

    def test_wrong_elements(self):
        for dimension, sort in CELLS:
            right, form = weight_for(dimension, sort), (dimension, sort, ())
            for wrong in wrong_weights(dimension, sort)[::3]:
                self.refuses(InvalidWeights, {"index": 2}, settles, (form,), (right, right, wrong, None))
                self.refuses(InvalidWeights, {"index": 0}, tied_weights, (form,), (wrong, right))
                self.refuses(InvalidWeights, {"index": 1}, form_with, (form,), (right, wrong), (ONE, 1))
        for wrong in wrong_weights(2, 1):
            for call in PAIRS:
                self.refuses(InvalidWeights, {"index": 1}, call, (FORM, OTHER), (SIDE, wrong, None))
            self.refuses(InvalidWeights, {"index": 0}, form_with, (FORM,), (wrong,), (None,))

    def test_a_weight_alone_is_no_tuple_of_weights(self):
        for call in PAIRS:
            self.refuses(InvalidWeights, {"index": 0}, call, (FORM,), SIDE)
            self.refuses(InvalidWeights, {"index": 1}, call, (FORM,), (INSIDE, ((0,), DOT)))
            self.refuses(InvalidWeights, {"index": 0}, call, (POLYNOMIAL,), (INSIDE, SIDE))


class Numbers(Refusals):
    def test_no_tuples_of_as_many(self):
        lots = [each for each in junk() if not isinstance(each, tuple)] + [[ONE, ONE], {ONE: ONE, (2, 1): ONE}]
        for wrong in [*lots, (), (ONE,), (None,), (ONE, ONE, ONE), (None, None, None), ONE[:1]]:
            self.refuses(InvalidNumbers, {"index": None}, form_with, (PLAIN, RISING), ENDS, wrong)
            self.refuses(InvalidNumbers, {"index": None}, form_with, (PLAIN, PLAIN), ENDS, wrong)
        self.refuses(InvalidNumbers, {"index": None}, form_with, (PLAIN,), ENDS, (ONE,))

    def test_wrong_elements(self):
        for wrong in wrong_fractions():
            self.refuses(InvalidNumbers, {"index": 1}, form_with, (PLAIN, RISING), ENDS, (ONE, wrong))
            self.refuses(InvalidNumbers, {"index": 0}, form_with, (PLAIN, RISING), ENDS, (wrong, None))
            self.refuses(InvalidNumbers, {"index": 0}, form_with, (PLAIN, PLAIN), ENDS, (wrong, ONE))
        self.refuses(InvalidNumbers, {"index": 0}, form_with, (PLAIN, RISING), ENDS, (1, 1))


class LastNotSettled(Refusals):
    LOTS = [
        ((PLAIN,), ENDS), ((PLAIN, RISING), ENDS[:1]), ((PLAIN, PLAIN), ENDS), ((PLAIN, PLAIN), ENDS[:1]), ((RISING, (1, 0, ())), ENDS),
        ((PLAIN, RISING), (ENDS[0], ENDS[0])), ((PLAIN, RISING), (ENDS[0], ((1,), (0, 0, ())))), (((1, 0, ()),), ENDS[:1]),
        ((RISING,), ENDS[:1]), ((DOT, DOT), (((0,), DOT), ((0,), DOT))), ((FORM, OTHER), (SIDE, SIDE)),
        ((PLAIN, RISING), (*ENDS, ENDS[0])), ((PLAIN, (1, 0, ())), ENDS[:1]), ((PLAIN, RISING, (1, 0, (((), (2,), ONE),))), ENDS),
    ]

    def test_weights_that_do_not_settle(self):
        for forms, weights in self.LOTS:
            self.assertIs(settles(forms, weights), False)
            self.refuses(NotSettled, {}, base_beside, forms, weights)
            self.refuses(NotSettled, {}, form_with, forms, weights, (ONE,) * len(weights))
            self.refuses(NotSettled, {}, form_with, forms, weights, ((0, 1),) * len(weights))

    def test_they_are_no_errors_elsewhere(self):
        for forms, weights in self.LOTS:
            for call in (table_of, settles, missed_form, tied_weights):
                self.assertIsNone(error_of(call, forms, weights))


if __name__ == "__main__":
    unittest.main()
