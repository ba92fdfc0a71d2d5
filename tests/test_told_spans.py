"""The whole and the trimmed spans, of all dimensions, degrees and sorts."""

import unittest
from fractions import Fraction
from math import comb

from cellrises.forms import degree_of, lowered, product, rise, sum_of
from cellrises.led import faces_of, led, trace
from cellrises.spans import (
    base_of, closed_stray, is_exact, lies_in, noughts_on_rim, rises_of, traces_of, trimmed_span, whole_span,
)
from tests.helpers import (
    CELLS, all_pairs, as_pair, chances, determinant, is_in_stairs, made_place, rank_of_numbers, same_span,
)

WHOLE = [(dimension, degree, sort) for dimension, sort in CELLS for degree in range(5)]
TRIMMED = [told for told in WHOLE if told[1] > 0]


def in_one_flat(places):
    """Whether places of a cell lie in one flat."""
    return determinant([[far - near for far, near in zip(place, places[0])] for place in places[1:]]) == 0


class Whole(unittest.TestCase):
    def test_all_forms_of_the_degree(self):
        for dimension, degree, sort in WHOLE:
            found = whole_span(dimension, degree, sort)
            expected = tuple((dimension, sort, ((*pair, (1, 1)),)) for pair in all_pairs(dimension, sort, degree))
            self.assertEqual(found, expected)
            self.assertEqual(whole_span(sort=sort, degree=degree, dimension=dimension), found)

    def test_count_and_stairs(self):
        for dimension, degree, sort in WHOLE:
            found = whole_span(dimension, degree, sort)
            self.assertEqual(len(found), comb(degree + dimension, dimension) * comb(dimension, sort))
            self.assertTrue(is_in_stairs(found))
            self.assertEqual(base_of(found), found)

    def test_edges(self):
        self.assertEqual(whole_span(0, 4, 0), ((0, 0, (((), (), (1, 1)),)),))
        self.assertEqual(whole_span(3, 0, 3), ((3, 3, (((1, 2, 3), (0, 0, 0), (1, 1)),)),))
        self.assertEqual(len(whole_span(3, 4, 2)), 105)


class Trimmed(unittest.TestCase):
    def test_sums_of_the_whole_one_and_lowered_forms(self):
        for dimension, degree, sort in TRIMMED:
            found = trimmed_span(dimension, degree, sort)
            forms = whole_span(dimension, degree - 1, sort)
            if sort < dimension:
                forms += tuple(lowered(form) for form in whole_span(dimension, degree - 1, sort + 1))
            self.assertTrue(is_in_stairs(found))
            self.assertTrue(same_span(found, forms))
            self.assertEqual(trimmed_span(sort=sort, degree=degree, dimension=dimension), found)

    def test_count(self):
        for dimension, degree, sort in TRIMMED:
            many = comb(degree + sort - 1, sort) * comb(dimension + degree, dimension - sort)
            self.assertEqual(len(trimmed_span(dimension, degree, sort)), many)

    def test_between(self):
        for dimension, degree, sort in TRIMMED:
            found = trimmed_span(dimension, degree, sort)
            self.assertTrue(lies_in(whole_span(dimension, degree - 1, sort), found))
            self.assertTrue(lies_in(found, whole_span(dimension, degree, sort)))
            if sort == 0:
                self.assertEqual(found, whole_span(dimension, degree, sort))
            elif sort == dimension:
                self.assertEqual(found, whole_span(dimension, degree - 1, sort))
            else:
                self.assertFalse(lies_in(whole_span(dimension, degree, sort), found))
                self.assertFalse(lies_in(found, whole_span(dimension, degree - 1, sort)))


class TracesAndMaps(unittest.TestCase):
    def test_traces_are_the_spans_of_the_face(self):
        for spans, told in ((whole_span, WHOLE), (trimmed_span, TRIMMED)):
            for dimension, degree, sort in told:
                if dimension == 3 and degree == 4:
                    continue
                found = spans(dimension, degree, sort)
                for face in faces_of(dimension, sort):
                    self.assertEqual(traces_of(found, face), spans(len(face) - 1, degree, sort))

    def test_led_by_any_straight_map(self):
        for spans, told in ((whole_span, WHOLE), (trimmed_span, TRIMMED)):
            for dimension, degree, sort in told:
                if dimension == 0 or dimension == 3 and degree > 2:
                    continue
                chance = chances("maps", dimension, degree, sort)
                places = [made_place(chance, dimension) for _ in range(dimension + 1)]
                while in_one_flat(places):
                    places = [made_place(chance, dimension) for _ in range(dimension + 1)]
                map_places = tuple(tuple(as_pair(worth) for worth in place) for place in places)
                found = spans(dimension, degree, sort)
                self.assertEqual(base_of(tuple(led(form, map_places) for form in found)), found)


class Rim(unittest.TestCase):
    def duals(self, spans, dimension, degree, sort):
        """The base of the other span that tells how many are nought on the rim; () below its least degree."""
        if spans == whole_span:
            other = degree + sort - dimension
            return trimmed_span(dimension, other, dimension - sort) if other >= 1 else ()
        other = degree + sort - dimension - 1
        return whole_span(dimension, other, dimension - sort) if other >= 0 else ()

    def test_count_and_sums_of_products(self):
        for spans, told in ((whole_span, WHOLE), (trimmed_span, TRIMMED)):
            for dimension, degree, sort in told:
                if sort < dimension:
                    noughts = noughts_on_rim(spans(dimension, degree, sort))
                    duals = self.duals(spans, dimension, degree, sort)
                    self.assertEqual(len(noughts), len(duals))
                    if len(noughts) <= 30:
                        self.assertEqual(self.rank_of_sums(noughts, duals), len(duals))

    def rank_of_sums(self, forms, others):
        """Of the table of the sums of all products: no form is nought by it if it is as many as the forms."""
        sums = [[Fraction(*sum_of(product(form, other))) for other in others] for form in forms]
        return rank_of_numbers([dict(enumerate(row)) for row in sums])

    def test_they_are_nought_on_all_sides(self):
        for dimension, degree, sort in TRIMMED:
            if sort < dimension:
                for side in faces_of(dimension, dimension - 1)[:-1]:
                    for form in noughts_on_rim(trimmed_span(dimension, degree, sort)):
                        self.assertEqual(trace(form, side), (dimension - 1, sort, ()))


class Exact(unittest.TestCase):
    STEPS = [(dimension, sort) for dimension, sort in CELLS if sort > 0]

    def test_rises(self):
        for dimension, sort in self.STEPS:
            for degree in range(1, 5):
                whole, trimmed = whole_span(dimension, degree, sort - 1), trimmed_span(dimension, degree, sort - 1)
                self.assertTrue(all(degree_of(rise(form)) in (None, *range(degree)) for form in whole))
                for spans, found in ((whole, whole_span(dimension, degree - 1, sort)),
                                     (trimmed, trimmed_span(dimension, degree, sort))):
                    rises = rises_of(spans)
                    self.assertTrue(rises == () or lies_in(rises, found))

    def test_exact_ones(self):
        for dimension, sort in self.STEPS:
            for degree in range(4):
                whole = whole_span(dimension, degree, sort)
                self.assertTrue(is_exact(whole_span(dimension, degree + 1, sort - 1), whole))
                self.assertTrue(is_exact(trimmed_span(dimension, degree + 1, sort - 1), whole))
            for degree in range(1, 5):
                trimmed = trimmed_span(dimension, degree, sort)
                self.assertIsNone(closed_stray(whole_span(dimension, degree, sort - 1), trimmed))
                self.assertIsNone(closed_stray(trimmed_span(dimension, degree, sort - 1), trimmed))

    def test_strays_of_degrees_that_do_not_go_together(self):
        for dimension, sort in self.STEPS:
            for degree in range(5):
                forms, others = whole_span(dimension, degree, sort - 1), whole_span(dimension, degree, sort)
                self.assertFalse(is_exact(forms, others))
                stray = closed_stray(forms, others)
                self.assertEqual(degree_of(stray), degree)
                self.assertTrue(sort == dimension or rise(stray) == (dimension, sort + 1, ()))
            for degree in range(1, 4):
                trimmed = trimmed_span(dimension, degree, sort - 1)
                self.assertFalse(is_exact(trimmed, trimmed_span(dimension, degree + 1, sort)))


if __name__ == "__main__":
    unittest.main()
