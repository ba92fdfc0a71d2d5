"""Elements: what they are, the told ones, their weights, whether they settle, what lives on faces."""

import unittest
from itertools import permutations
from math import comb

from cellrises.elements import is_element, living_on, settles_cell, told_element, told_tests, weights_of
from cellrises.forms import degree_of, plus, times_number
from cellrises.led import trace
from cellrises.measures import base_beside, measure, missed_form, settles, tied_weights
from cellrises.spans import is_within, noughts_on_rim, rank_of, trimmed_span, whole_span
from tests.helpers import (
    all_pairs, bent, both_ways, chances, is_in_stairs, made_forms, rank_of_forms, same_span, together,
)
from tests.weighing import (
    BIG, DOT, NIL, ONE, SMALL, TOLD, changed, faces, inner_element, mixed, mixed_element, reckoned, settles_by_rank,
    wrong_elements,
)

PLAIN, RISING = (1, 0, (((), (0,), ONE),)), (1, 0, (((), (1,), ONE),))
ALONG, STEP = (1, 1, (((1,), (0,), ONE),)), (1, 1, (((1,), (1,), ONE),))
HAT, LOOSE = ((PLAIN, RISING), ((DOT,), ())), ((PLAIN, RISING), ((), (ALONG, STEP)))
LINE = ((ALONG,), ((), (PLAIN,)))
TRIANGLE = told_element("whole", 2, 2, 0)


def noughts(form):
    """The nought form beside one."""
    return (*form[:2], ())


def spoilt(element):
    """Elements that do not settle: a test more, a test less, a test twice, a nought test in the place of one."""
    for dimension, tests in enumerate(element[1]):
        if tests:
            yield changed(element, dimension, tests[1:])
            yield changed(element, dimension, tests + tests[:1])
            yield changed(element, dimension, tests + (noughts(tests[0]),))
            yield changed(element, dimension, (noughts(tests[0]), *tests[1:]))
            yield changed(element, dimension, ())
            if len(tests) > 1:
                yield changed(element, dimension, tests[1:] + tests[-1:])


class IsElement(unittest.TestCase):
    def test_elements(self):
        for told in TOLD:
            element = told_element(*told)
            self.assertIs(both_ways(is_element, element), True)
            if told in SMALL:
                self.assertIs(is_element(mixed_element(chances("is element", told), element)), True)
                self.assertIs(is_element(inner_element(*told)), True)

    def test_no_elements(self):
        for wrong in wrong_elements():
            with self.subTest(wrong=wrong):
                self.assertIs(is_element(wrong), False)

    def test_one_thing_bent_at_any_place(self):
        for element in (HAT, LOOSE, LINE, ((*TRIANGLE[0][:2],), (TRIANGLE[1][0], TRIANGLE[1][1], ()))):
            self.assertIs(is_element(element), True)
            for wrong in bent(element):
                self.assertIs(is_element(wrong), False)

    def test_tests_may_lack_be_nought_or_stand_twice(self):
        for told in SMALL:
            element = told_element(*told)
            empty = (element[0], ((),) * (told[1] + 1))
            for other in (empty, (element[0][::-1], element[1]), (element[0][:1], element[1]), *spoilt(element)):
                self.assertIs(is_element(other), True)

    def test_forms_are_free(self):
        for told in SMALL:
            forms, tests = told_element(*told)
            chance = chances("free", told)
            for more in (noughts(forms[0]), forms[0], times_number(forms[-1], (-3, 7)), together(forms, [2] * len(forms))):
                self.assertIs(is_element(((*forms, more), tests)), False)
                self.assertIs(is_element(((more, *forms), tests)), False)
            for _ in range(4):
                forms = made_forms(chance, told[1], told[3], 2, 4)
                self.assertIs(is_element((forms, tests)), rank_of_forms(forms) == 4)

    def test_tests_for_each_dimension_from_the_sort_on(self):
        for dimension in (1, 2, 3):
            for sort in range(dimension + 1):
                forms = whole_span(dimension, 0, sort)
                for own in range(dimension + 1):
                    for kept in range(dimension + 1):
                        test = (own, own - kept, ())
                        self.assertIs(is_element(changed((forms, ((),) * (dimension + 1)), own, (test,))), kept == sort <= own)

    def test_any_degree_and_large_numbers(self):
        high = (2, 1, (((1,), (12, 0), BIG), ((2,), (4, 8), (-1, 10 ** 300))))
        test = (2, 1, (((1,), (5, 7), BIG),))
        self.assertIs(is_element(((high,), ((), (), (test, test)))), True)
        self.assertIs(is_element(((high, times_number(high, BIG)), ((), (), ()))), False)
        self.assertIs(is_element(((high, times_number(high, BIG), noughts(high)), ((), (), ()))), False)


def expected_tests(kind, dimension, degree, sort):
    """The told tests, as the words tell."""
    found = []
    for own in range(dimension + 1):
        if own < sort:
            found.append(())
        elif kind == "whole" and own == sort:
            found.append(whole_span(own, degree, 0))
        elif kind == "whole":
            found.append(trimmed_span(own, degree + sort - own, own - sort) if degree + sort - own >= 1 else ())
        else:
            found.append(whole_span(own, degree + sort - own - 1, own - sort) if degree + sort - own - 1 >= 0 else ())
    return tuple(found)


class Told(unittest.TestCase):
    def test_tests(self):
        for told in TOLD:
            found = both_ways(told_tests, *told)
            self.assertEqual(found, expected_tests(*told))
            self.assertEqual(len(found), told[1] + 1)
            for own, tests in enumerate(found):
                self.assertIs(type(tests), tuple)
                self.assertTrue(is_in_stairs(tests))
                self.assertTrue(all(test[:2] == (own, own - told[3]) for test in tests))

    def test_elements(self):
        for told in TOLD:
            kind, dimension, degree, sort = told
            span = whole_span if kind == "whole" else trimmed_span
            self.assertEqual(both_ways(told_element, *told), (span(dimension, degree, sort), told_tests(*told)))

    def test_counts_of_tests(self):
        for kind, dimension, degree, sort in TOLD:
            for own, tests in enumerate(told_tests(kind, dimension, degree, sort)):
                with self.subTest(kind=kind, dimension=dimension, degree=degree, sort=sort, own=own):
                    many, high = own - sort, degree + sort - own
                    if many < 0:
                        self.assertEqual(tests, ())
                    elif kind == "whole" and many == 0:
                        self.assertEqual(len(tests), comb(degree + own, own))
                    elif kind == "whole":
                        self.assertEqual(len(tests), comb(high + many - 1, many) * comb(own + high, sort) if high > 0 else 0)
                    else:
                        self.assertEqual(len(tests), comb(high - 1 + own, own) * comb(own, many) if high > 0 else 0)

    def test_tests_on_a_face_are_as_many_as_forms_are_nought_on_its_rim(self):
        for kind, dimension, degree, sort in SMALL:
            span = whole_span if kind == "whole" else trimmed_span
            for own, tests in enumerate(told_tests(kind, dimension, degree, sort)):
                if own >= sort and degree > 0:
                    self.assertEqual(len(tests), len(noughts_on_rim(span(own, degree, sort))))

    def test_by_hand(self):
        self.assertEqual(told_tests("whole", 1, 2, 0), ((DOT,), (ALONG,)))
        self.assertEqual(told_tests("whole", 1, 0, 1), ((), (PLAIN,)))
        self.assertEqual(told_tests("trimmed", 1, 2, 1), ((), (PLAIN, RISING)))
        self.assertEqual([len(each) for each in told_tests("whole", 3, 4, 0)], [1, 3, 3, 1])
        self.assertEqual([len(each) for each in told_tests("trimmed", 3, 2, 1)], [0, 2, 2, 0])
        self.assertEqual([len(each) for each in told_tests("whole", 3, 2, 1)], [0, 3, 3, 0])
        self.assertEqual([len(each) for each in told_tests("whole", 3, 0, 3)], [0, 0, 0, 1])
        self.assertEqual(told_element("whole", 1, 1, 0), HAT)
        self.assertEqual(told_element("trimmed", 1, 1, 1), LINE)
        self.assertEqual(told_element("whole", 1, 0, 1), LINE)


class Weights(unittest.TestCase):
    def test_face_by_face_in_order(self):
        for told in SMALL:
            element = mixed_element(chances("weights", told), told_element(*told))
            expected = []
            for face in faces(told[1], told[3]):
                expected += [(face, test) for test in element[1][len(face) - 1]]
            self.assertEqual(both_ways(weights_of, element), tuple(expected))

    def test_noughts_and_repetitions_count(self):
        element = ((PLAIN, RISING), ((DOT, DOT, (0, 0, ())), (STEP, (1, 1, ()))))
        ends = [((at,), test) for at in (0, 1) for test in (DOT, DOT, (0, 0, ()))]
        self.assertEqual(weights_of(element), (*ends, ((0, 1), STEP), ((0, 1), (1, 1, ()))))
        self.assertEqual(weights_of((HAT[0], ((), ()))), ())

    def test_as_many_as_faces_and_tests(self):
        for told in TOLD:
            element = told_element(*told)
            many = sum(comb(told[1] + 1, own + 1) * len(tests) for own, tests in enumerate(element[1]))
            self.assertEqual(len(weights_of(element)), many)
            self.assertEqual(many, len(element[0]))


class Settles(unittest.TestCase):
    def test_all_told_elements(self):
        for told in TOLD:
            with self.subTest(told=told):
                self.assertIs(both_ways(settles_cell, told_element(*told)), True)

    def test_told_otherwise(self):
        for told in SMALL:
            chance = chances("otherwise", told)
            for element in (told_element(*told), inner_element(*told)):
                self.assertIs(settles_cell(mixed_element(chance, element)), True)

    def test_spoilt_ones(self):
        for told in SMALL:
            for element in spoilt(told_element(*told)):
                self.assertIs(settles_cell(element), False)

    def test_no_tests_at_all(self):
        for told in SMALL:
            forms, tests = told_element(*told)
            self.assertIs(settles_cell((forms, ((),) * len(tests))), False)
            self.assertIs(settles_cell((forms[:1], ((),) * len(tests))), False)

    def test_just_if_its_weights_settle_its_forms(self):
        seen = {True: 0, False: 0}
        for told in SMALL:
            chance, element = chances("just if", told), told_element(*told)
            pairs = all_pairs(told[1], told[3], told[2] + 1)
            if len(element[0]) <= 10:
                for _ in range(3):
                    chosen = chance.sample(pairs, len(element[0]))
                    forms = mixed(chance, [(told[1], told[3], ((*pair, ONE),)) for pair in chosen])
                    found = settles_cell((forms, element[1]))
                    self.assertIs(found, settles(forms, weights_of(element)))
                    self.assertIs(found, settles_by_rank(forms, weights_of(element)))
                    seen[found] += 1
        self.assertGreater(min(seen.values()), 10, seen)

    def test_as_many_but_missed_and_tied(self):
        # The sums over the three sides settle all of the degree 1, but miss what is nought on all sides.
        crossed = (whole_span(2, 1, 0), ((), (ALONG,), ()))
        self.assertIs(settles_cell(crossed), True)
        bubble = (2, 0, (((), (1, 1), ONE), ((), (1, 2), (-1, 1)), ((), (2, 1), (-1, 1))))
        forms = (*whole_span(2, 1, 0)[:2], bubble)
        self.assertIs(settles_cell((forms, ((), (ALONG,), ()))), False)
        self.assertEqual(rank_of((missed_form(forms, weights_of(crossed)), bubble)), 1)
        self.assertIsNotNone(tied_weights(forms, weights_of(crossed)))

    def test_large_numbers(self):
        element = told_element("trimmed", 2, 2, 1)
        big = (tuple(plus(times_number(form, BIG), element[0][0]) for form in element[0]),
               tuple(tuple(times_number(test, BIG) for test in tests) for tests in element[1]))
        self.assertIs(settles_cell(big), True)
        prime = 2 ** 61 - 1
        self.assertIs(settles_cell((mixed(chances("prime"), element[0], prime), element[1])), True)
        for factor in ((prime, 1), (1, prime), (prime - 1, prime)):
            near = tuple(plus(element[0][0], times_number(form, factor)) for form in element[0][1:])
            self.assertIs(settles_cell(((element[0][0], *near), element[1])), True)


class LivingOn(unittest.TestCase):
    def test_measures_elsewhere_are_0(self):
        for told in SMALL:
            if told[1] == 3 and told[2] > 1:
                continue
            element = mixed_element(chances("living", told), told_element(*told))
            for face in faces(told[1], 0):
                for form in both_ways(living_on, element, face):
                    self.assertTrue(is_within(element[0], form))
                    for other, test in weights_of(element):
                        self.assertTrue(other == face or reckoned(form, (other, test)) == 0)

    def test_as_many_as_tests_and_together_the_span(self):
        for told in SMALL:
            for element in (told_element(*told), inner_element(*told)):
                parts = []
                for face in faces(told[1], 0):
                    found = living_on(element, face)
                    self.assertTrue(is_in_stairs(found))
                    self.assertEqual(len(found), len(element[1][len(face) - 1]))
                    parts += found
                self.assertEqual(len(parts), len(element[0]))
                self.assertEqual(rank_of(tuple(parts)), len(parts))
                self.assertTrue(same_span(tuple(parts), element[0]))

    def test_the_base_beside_the_weights_lives_on_their_faces(self):
        for told in SMALL:
            element = told_element(*told)
            weights = weights_of(element)
            for weight, form in zip(weights, base_beside(element[0], weights)):
                self.assertTrue(is_within(living_on(element, weight[0]), form))

    def test_no_trace_where_a_corner_lacks(self):
        for told in TOLD:
            if told[1] == 3 and told[2] > 3:
                continue
            element = told_element(*told)
            for face in faces(told[1], told[3]):
                for form in living_on(element, face):
                    for other in faces(told[1], told[3]):
                        if not set(face) <= set(other):
                            self.assertEqual(trace(form, other)[2], ())
                    self.assertNotEqual(trace(form, face)[2], ())

    def test_if_it_does_not_join_there_may_be_a_trace(self):
        self.assertEqual(living_on(LOOSE, (0,)), ())
        self.assertEqual(living_on(LOOSE, (0, 1)), (PLAIN, RISING))

    def test_below_the_sort(self):
        for told in SMALL:
            element = told_element(*told)
            for face in faces(told[1], 0):
                if len(face) - 1 < told[3]:
                    self.assertEqual(living_on(element, face), ())

    def test_by_hand(self):
        self.assertEqual(living_on(HAT, (1,)), (RISING,))
        self.assertEqual(living_on(HAT, (0, 1)), ())
        (hump,) = living_on(TRIANGLE, (0, 1))
        # x_1 (1 - x_1 - x_2) alone is nought at all corners and on the two other sides.
        self.assertEqual(hump, (2, 0, (((), (1, 0), ONE), ((), (1, 1), (-1, 1)), ((), (2, 0), (-1, 1)))))
        self.assertEqual([reckoned(hump, ((at,), DOT)) for at in (0, 1, 2)], [0, 0, 0])

    def test_however_the_element_is_told(self):
        for told in SMALL:
            element = told_element(*told)
            other = mixed_element(chances("however", told), element)
            for face in faces(told[1], told[3])[:6]:
                self.assertEqual(living_on(element, face), living_on(other, face))

    def test_large_numbers(self):
        (form,) = living_on(((plus(PLAIN, times_number(RISING, BIG)), times_number(RISING, (1, BIG[0]))), HAT[1]), (0,))
        self.assertEqual(form, (1, 0, (((), (0,), ONE), ((), (1,), (-1, 1)))))


class RimByElements(unittest.TestCase):
    def test_inside_of_told_elements(self):
        """What lives on the cell is what is nought on the rim: the tests there settle it."""
        for kind, dimension, degree, sort in SMALL:
            if sort < dimension:
                span = whole_span if kind == "whole" else trimmed_span
                cell = tuple(range(dimension + 1))
                found = living_on(told_element(kind, dimension, degree, sort), cell)
                self.assertEqual(found, noughts_on_rim(span(dimension, degree, sort)))

    def test_degrees(self):
        for kind, dimension, degree, sort in TOLD:
            element = told_element(kind, dimension, degree, sort)
            highest = max(degree_of(form) for form in element[0])
            self.assertEqual(highest, degree if kind == "whole" or sort < dimension else degree - 1)

    def test_forms_stand_in_any_order(self):
        forms, tests = told_element("trimmed", 2, 1, 1)
        for order in permutations(forms):
            self.assertIs(settles_cell((order, tests)), True)
            self.assertEqual(living_on((order, tests), (0, 2)), living_on((forms, tests), (0, 2)))
            self.assertEqual(measure(living_on((order, tests), (0, 2))[0], ((0, 1), PLAIN)), NIL)


if __name__ == "__main__":
    unittest.main()
