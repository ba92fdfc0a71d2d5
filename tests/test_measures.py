"""Measures and their tables: what settles, what is missed, which weights are tied, bases beside weights."""

import unittest
from fractions import Fraction

from cellrises.forms import is_form, plus, times_number
from cellrises.measures import (
    base_beside, form_with, is_weight, measure, missed_form, settles, table_of, tied_weights,
)
from cellrises.spans import is_within, whole_span
from tests.helpers import (
    CELLS, all_pairs, as_pair, both_ways, chances, made_form, made_forms, number, rank_of_forms, rank_of_numbers, together,
)
from tests.weighing import (
    BIG, DOT, NIL, ONE, adds_up_to_nought, faces, made_weight, made_weights, reckoned, reckoned_rows, settles_by_rank,
    wrong_weights,
)

PLAIN, RISING = (1, 0, (((), (0,), ONE),)), (1, 0, (((), (1,), ONE),))
ENDS = (((0,), DOT), ((1,), DOT))


def cases(name, times=12, degree=2):
    """Some forms and weights for each cell and sort: few and many of both, free or not, noughts and repetitions among them."""
    for dimension, sort in CELLS:
        chance = chances(name, dimension, sort)
        for _ in range(times):
            forms = made_forms(chance, dimension, sort, degree, chance.randint(1, 4))
            weights = made_weights(chance, dimension, sort, chance.choice((len(forms), chance.randint(1, 4))), degree)
            if chance.random() < 0.2:
                forms += (together(forms, [chance.randint(-2, 2) for _ in forms]),)
            if chance.random() < 0.2:
                weights += (chance.choice(weights),)
            yield forms, weights


def settled_cases(name, times=5):
    """Such ones that settle."""
    for dimension, sort in CELLS:
        chance, many = chances(name, dimension, sort), 0
        most = min(4, len(all_pairs(dimension, sort, 2)))
        while many < times:
            forms = made_forms(chance, dimension, sort, 2, chance.randint(1, most))
            weights = made_weights(chance, dimension, sort, len(forms))
            if settles_by_rank(forms, weights):
                many += 1
                yield forms, weights


class IsWeight(unittest.TestCase):
    def test_weights(self):
        for dimension, sort in CELLS:
            chance = chances("is weight", dimension, sort)
            for face in faces(dimension, sort):
                for degree in (0, 2, 12):
                    test = made_form(chance, len(face) - 1, len(face) - 1 - sort, degree)
                    self.assertIs(both_ways(is_weight, dimension, sort, (face, test)), True)
                self.assertIs(is_weight(dimension, sort, (face, (len(face) - 1, len(face) - 1 - sort, ()))), True)

    def test_no_weights(self):
        for dimension, sort in CELLS:
            for wrong in wrong_weights(dimension, sort):
                with self.subTest(dimension=dimension, sort=sort, wrong=wrong):
                    self.assertIs(is_weight(dimension, sort, wrong), False)

    def test_each_cell_and_sort_has_its_own(self):
        for dimension, sort in CELLS:
            for other in range(dimension + 1):
                for face in faces(dimension, 0):
                    for cell in CELLS:
                        right = len(face) > sort and cell == (len(face) - 1, len(face) - 1 - sort)
                        self.assertIs(is_weight(dimension, sort, (face, (*cell, ()))), right)
                for face in faces(dimension, max(sort, other)):
                    weight = (face, (len(face) - 1, len(face) - 1 - other, ()))
                    self.assertIs(is_weight(dimension, sort, weight), sort == other)


class Measure(unittest.TestCase):
    def test_as_reckoned_from_values(self):
        for dimension, sort in CELLS:
            chance = chances("measure", dimension, sort)
            for face in faces(dimension, sort):
                for degree in (0, 1, 3):
                    form = made_form(chance, dimension, sort, degree)
                    weight = (face, made_form(chance, len(face) - 1, len(face) - 1 - sort, 3))
                    self.assertEqual(both_ways(measure, form, weight), as_pair(reckoned(form, weight)))

    def test_sums_and_multiples(self):
        for dimension, sort in CELLS:
            chance = chances("linear", dimension, sort)
            for _ in range(6):
                form, other = made_forms(chance, dimension, sort, 3, 2)
                face, test = made_weight(chance, dimension, sort)
                more = made_form(chance, *test[:2], 3)
                factor = as_pair(Fraction(chance.randint(-9, 9), chance.randint(1, 9)))
                own = number(measure(form, (face, test)))
                self.assertEqual(number(measure(plus(form, other), (face, test))), own + number(measure(other, (face, test))))
                self.assertEqual(number(measure(form, (face, plus(test, more)))), own + number(measure(form, (face, more))))
                self.assertEqual(number(measure(times_number(form, factor), (face, test))), own * number(factor))
                self.assertEqual(number(measure(form, (face, times_number(test, factor)))), own * number(factor))

    def test_nought(self):
        for dimension, sort in CELLS:
            chance = chances("nought", dimension, sort)
            form, (face, test) = made_form(chance, dimension, sort, 3), made_weight(chance, dimension, sort)
            self.assertEqual(measure((dimension, sort, ()), (face, test)), NIL)
            self.assertEqual(measure(form, (face, (*test[:2], ()))), NIL)

    def test_the_trace_stands_first(self):
        first, second = (2, 1, (((1,), (0, 0), ONE),)), (2, 1, (((2,), (0, 0), ONE),))
        self.assertEqual(measure(first, ((0, 1, 2), second)), (1, 2))
        self.assertEqual(measure(second, ((0, 1, 2), first)), (-1, 2))

    def test_dimension_0(self):
        self.assertEqual(measure((0, 0, (((), (), (3, 7)),)), ((0,), (0, 0, (((), (), (-5, 2)),)))), (-15, 14))

    def test_corners_edges_sides_and_the_cell(self):
        form = (3, 0, (((), (0, 0, 0), (2, 1)), ((), (0, 1, 0), (-3, 1)), ((), (1, 0, 1), ONE)))
        self.assertEqual([measure(form, ((at,), DOT)) for at in range(4)], [(2, 1), (2, 1), (-1, 1), (2, 1)])
        self.assertEqual(measure(form, ((0, 2), (1, 1, (((1,), (1,), ONE),)))), (0, 1))
        self.assertEqual(measure(form, ((1, 3), (1, 1, (((1,), (0,), ONE),)))), (13, 6))
        self.assertEqual(measure(form, ((0, 1, 3), (2, 2, (((1, 2), (0, 0), ONE),)))), (25, 24))
        self.assertEqual(measure(form, ((0, 1, 2, 3), (3, 3, (((1, 2, 3), (0, 0, 0), ONE),)))), (13, 60))

    def test_high_degree_and_large_numbers(self):
        form = (3, 1, (((1,), (12, 0, 0), BIG), ((2,), (4, 4, 4), (-1, 10 ** 300)), ((3,), (0, 11, 1), ONE)))
        for face in faces(3, 1):
            dimension = len(face) - 1
            test = made_form(chances("high", face), dimension, dimension - 1, 4)
            test = plus(test, times_number(made_form(chances("more", face), dimension, dimension - 1, 2), BIG))
            self.assertEqual(measure(form, (face, test)), as_pair(reckoned(form, (face, test))))


class Tables(unittest.TestCase):
    def test_rows_are_weights(self):
        for forms, weights in cases("table", 6):
            rows = both_ways(table_of, forms, weights)
            self.assertEqual(rows, tuple(tuple(measure(form, weight) for form in forms) for weight in weights))
            self.assertTrue(all(type(row) is tuple for row in (rows, *rows)))

    def test_one_of_each_and_one_twice(self):
        self.assertEqual(table_of((RISING,), (ENDS[1],)), ((ONE,),))
        self.assertEqual(table_of((RISING, RISING, PLAIN), (ENDS[0], ENDS[1], ENDS[0])),
                         ((NIL, NIL, ONE), (ONE, ONE, ONE), (NIL, NIL, ONE)))


class UnlikeFaces(unittest.TestCase):
    """For tests on unlike faces the sum of all measures is 0 for all forms exactly if all of these tests are nought."""

    def test_one_test_on_each_face(self):
        for dimension, sort in CELLS:
            chance = chances("unlike faces", dimension, sort)
            forms = whole_span(dimension, 4, sort)
            for _ in range(4):
                weights = [(face, made_form(chance, len(face) - 1, len(face) - 1 - sort, 0, 2))
                           for face in faces(dimension, sort) if chance.random() < 0.7] or [made_weight(chance, dimension, sort, 0)]
                found = tied_weights(forms, tuple(weights))
                self.assertEqual(found is None, all(test[2] for _, test in weights))
                if found is not None:
                    self.assertTrue(all(factor == NIL or test[2] == () for factor, (_, test) in zip(found, weights)))

    def test_on_all_faces_at_once(self):
        for dimension, sort in CELLS:
            lots = [whole_span(len(face) - 1, 0, len(face) - 1 - sort)[0] for face in faces(dimension, sort)]
            weights = tuple(zip(faces(dimension, sort), lots))
            self.assertIsNone(both_ways(tied_weights, whole_span(dimension, 4, sort), weights))
            self.assertIsNotNone(tied_weights(whole_span(dimension, 4, sort), weights + weights[:1]))


class Settles(unittest.TestCase):
    def test_exactly_if_there_is_an_inverse(self):
        told = {True: 0, False: 0}
        for forms, weights in [*cases("settles"), *settled_cases("settles", 2)]:
            found = both_ways(settles, forms, weights)
            self.assertIs(found, settles_by_rank(forms, weights))
            told[found] += 1
        self.assertGreater(min(told.values()), 20)

    def test_otherwise_missed_or_not_free_or_tied(self):
        for forms, weights in cases("otherwise"):
            missed, tied = missed_form(forms, weights) is not None, tied_weights(forms, weights) is not None
            free = rank_of_forms(forms) == len(forms)
            self.assertIs(settles(forms, weights), free and not missed and not tied)

    def test_forms_that_are_not_free(self):
        self.assertIs(settles((RISING, RISING), ENDS), False)
        self.assertIs(settles(((1, 0, ()), RISING), ENDS), False)
        self.assertIs(settles((RISING, PLAIN, plus(PLAIN, RISING)), (*ENDS, ((0, 1), (1, 1, (((1,), (0,), ONE),))))), False)
        self.assertIs(settles(((1, 0, ()),), ENDS[:1]), False)

    def test_one_form_and_one_weight(self):
        self.assertIs(settles((RISING,), (ENDS[1],)), True)
        self.assertIs(settles((RISING,), (ENDS[0],)), False)
        self.assertIs(settles((PLAIN,), (((0, 1), (1, 1, ())),)), False)
        self.assertIs(settles((DOT,), (((0,), (0, 0, (((), (), (-1, 9)),))),)), True)
        self.assertIs(settles((DOT,), (((0,), (0, 0, ())),)), False)

    def test_numbers_that_remainders_do_not_tell(self):
        for prime in (2, 3, 5, 7, 2 ** 13 - 1, 2 ** 31 - 1, 2 ** 61 - 1, 2 ** 89 - 1, 10 ** 9 + 7, 10 ** 9 + 9, 998244353):
            near = plus(RISING, times_number(PLAIN, (prime, 1)))
            self.assertIs(settles((RISING, near), ENDS), True)
            self.assertIs(settles((near, RISING), ENDS[::-1]), True)
            self.assertIs(settles((PLAIN, times_number(RISING, (1, prime))), ENDS), True)
            self.assertIs(settles((near, times_number(near, (prime, prime + 1))), ENDS), False)
            self.assertEqual(form_with((RISING, near), ENDS, ((prime, 1), (prime + 1, 1))), near)


class Missed(unittest.TestCase):
    def test_exactly_if_the_rank_is_less_than_that_of_the_forms(self):
        many = 0
        for forms, weights in cases("missed"):
            missed = both_ways(missed_form, forms, weights)
            is_none = rank_of_numbers(reckoned_rows(forms, weights)) == rank_of_forms(forms)
            self.assertIs(missed is None, is_none)
            if missed is not None:
                many += 1
                self.assertTrue(is_form(missed) and missed[2] != ())
                self.assertTrue(is_within(forms, missed))
                self.assertTrue(all(reckoned(missed, weight) == 0 for weight in weights))
        self.assertGreater(many, 30)

    def test_forms_that_are_not_free_miss_nothing_by_that(self):
        self.assertIsNone(missed_form((RISING, RISING), (ENDS[1],)))
        self.assertIsNone(missed_form((RISING, PLAIN, plus(RISING, PLAIN)), ENDS))
        self.assertIsNone(missed_form(((1, 0, ()),), ENDS))
        self.assertIsNone(missed_form(((1, 0, ()), PLAIN), ENDS))
        self.assertIsNotNone(missed_form((RISING, RISING), (ENDS[0],)))

    def test_nought_tests_miss_all(self):
        self.assertIsNotNone(missed_form((PLAIN,), (((0, 1), (1, 1, ())),)))
        self.assertIsNotNone(missed_form((PLAIN, RISING), (ENDS[0], ENDS[0])))


class Tied(unittest.TestCase):
    def test_exactly_if_the_rank_is_less_than_the_number_of_weights(self):
        many = 0
        for forms, weights in cases("tied"):
            tied = both_ways(tied_weights, forms, weights)
            is_none = rank_of_numbers(reckoned_rows(forms, weights)) == len(weights)
            self.assertIs(tied is None, is_none)
            if tied is not None:
                many += 1
                self.assertIs(type(tied), tuple)
                self.assertEqual(len(tied), len(weights))
                self.assertTrue(all(factor == as_pair(number(factor)) for factor in tied))
                self.assertTrue(any(factor != NIL for factor in tied))
                self.assertTrue(adds_up_to_nought(forms, weights, tied))
        self.assertGreater(many, 30)

    def test_by_hand(self):
        self.assertIsNone(tied_weights((PLAIN, RISING), ENDS))
        first, second = tied_weights((PLAIN,), ENDS)
        self.assertEqual(number(first), -number(second))
        first, second, third = tied_weights((PLAIN, RISING), (ENDS[1], ENDS[0], ENDS[1]))
        self.assertEqual((number(first), second), (-number(third), NIL))
        self.assertEqual(tied_weights((PLAIN, RISING), (ENDS[1], ((0,), (0, 0, ()))))[0], NIL)
        self.assertEqual(len(tied_weights(((1, 0, ()),), (ENDS[0],))), 1)

    def test_large_numbers(self):
        weights = (((0,), (0, 0, (((), (), BIG),))), ((1,), (0, 0, (((), (), (10 ** 200, 3)),))), ENDS[0])
        self.assertTrue(adds_up_to_nought((PLAIN, RISING), weights, tied_weights((PLAIN, RISING), weights)))


class Bases(unittest.TestCase):
    def test_base_beside(self):
        for forms, weights in settled_cases("beside"):
            base = both_ways(base_beside, forms, weights)
            self.assertIs(type(base), tuple)
            self.assertEqual(len(base), len(weights))
            for at, form in enumerate(base):
                self.assertTrue(is_form(form) and is_within(forms, form))
                self.assertEqual([reckoned(form, weight) for weight in weights], [int(at == own) for own in range(len(weights))])

    def test_form_with(self):
        for forms, weights in settled_cases("with"):
            chance = chances(forms, weights)
            told = [Fraction(chance.randint(-9, 9), chance.randint(1, 9)) for _ in weights]
            found = both_ways(form_with, forms, weights, tuple(as_pair(each) for each in told))
            self.assertTrue(is_form(found) and is_within(forms, found))
            self.assertEqual([reckoned(found, weight) for weight in weights], told)
            self.assertEqual(found, together(base_beside(forms, weights), told))
            self.assertEqual(form_with(forms, weights, (NIL,) * len(weights)), (*forms[0][:2], ()))

    def test_just_one_form_has_the_measures(self):
        for forms, weights in settled_cases("just one", 3):
            chance = chances(forms)
            form = together(forms, [Fraction(chance.randint(-5, 5), chance.randint(1, 5)) for _ in forms])
            self.assertEqual(form_with(forms, weights, tuple(measure(form, weight) for weight in weights)), form)

    def test_the_order_of_forms_does_not_matter_that_of_weights_does(self):
        self.assertEqual(base_beside((RISING, PLAIN), ENDS[::-1]), base_beside((PLAIN, RISING), ENDS)[::-1])
        self.assertEqual(base_beside((RISING, PLAIN), ENDS), base_beside((PLAIN, RISING), ENDS))
        self.assertEqual(base_beside((plus(RISING, PLAIN), PLAIN), ENDS), base_beside((PLAIN, RISING), ENDS))

    def test_one_form_and_one_weight(self):
        self.assertEqual(base_beside((times_number(RISING, (2, 3)),), (ENDS[1],)), (RISING,))
        self.assertEqual(form_with((RISING,), (((0, 1), (1, 1, (((1,), (0,), (-3, 1)),))),), (ONE,)), times_number(RISING, (-2, 3)))
        dots = ((0, 0, (((), (), (-1, 5)),)),)
        self.assertEqual(base_beside(dots, (((0,), (0, 0, (((), (), (3, 1)),))),)), ((0, 0, (((), (), (1, 3)),)),))

    def test_large_numbers(self):
        forms = (plus(PLAIN, times_number(RISING, BIG)), times_number(PLAIN, (-BIG[1], BIG[0])))
        base = base_beside(forms, ENDS)
        self.assertEqual(base, base_beside((PLAIN, RISING), ENDS))
        told = ((BIG[1], BIG[0]), (1, BIG[1]))
        self.assertEqual([measure(form_with(forms, ENDS, told), weight) for weight in ENDS], list(told))
        weights = (((0,), (0, 0, (((), (), BIG),))), ENDS[1])
        self.assertEqual(base_beside(forms, weights)[0], times_number(base[0], (BIG[1], BIG[0])))

    def test_what_was_returned_may_be_passed(self):
        for forms, weights in settled_cases("again", 2):
            base = base_beside(forms, weights)
            self.assertTrue(settles(base, weights))
            self.assertEqual(base_beside(base, weights), base)
            rows = table_of(base, weights)
            self.assertEqual(rows, tuple(tuple(ONE if at == own else NIL for own in range(len(base))) for at in range(len(base))))


if __name__ == "__main__":
    unittest.main()
