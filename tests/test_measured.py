"""Measured forms, and which elements keep rises beside which others."""

import unittest
from fractions import Fraction

from cellrises.closed import is_closed
from cellrises.elements import is_element, settles_cell, told_element, weights_of
from cellrises.forms import degree_of, is_form, plus, product, rise, times_number
from cellrises.led import trace
from cellrises.measured import form_felt, keeps_rises, measured, parting_form, weights_of_rise
from cellrises.measures import form_with, is_weight, measure
from cellrises.spans import is_within, whole_span
from tests.helpers import CELLS, all_pairs, as_pair, both_ways, chances, made_form, together
from tests.weighing import (
    BIG, DOT, ONE, SMALL, TOLD, changed, faces, inner_element, mixed, mixed_element, reckoned, small,
)

PLAIN, RISING = (1, 0, (((), (0,), ONE),)), (1, 0, (((), (1,), ONE),))
ALONG, STEP = (1, 1, (((1,), (0,), ONE),)), (1, 1, (((1,), (1,), ONE),))
HAT, LOOSE, LINE = ((PLAIN, RISING), ((DOT,), ())), ((PLAIN, RISING), ((), (ALONG, STEP))), ((ALONG,), ((), (PLAIN,)))
ON_THREE = ((2, 0, (((), (0, 0), ONE), ((), (0, 1), (-1, 1)), ((), (1, 0), (-1, 1)))),
            (2, 0, (((), (1, 0), ONE),)), (2, 0, (((), (0, 1), ONE),)))


def degree_to_look_at(element, other):
    """Up to which degree some form parts two elements that do not keep rises, or one of the first one's span."""
    tests = [test for each in (element, other) for own in each[1] for test in own]
    return element[0][0][0] + 1 + max([degree_of(test) or 0 for test in tests], default=0)


def keeps_by_all_terms(element, other):
    """Whether rises are kept for all forms of one term up to that degree, and those of the first one's span."""
    dimension, sort = element[0][0][:2]
    pairs = all_pairs(dimension, sort, degree_to_look_at(element, other))
    forms = [(dimension, sort, ((*pair, ONE),)) for pair in pairs]
    return not any(parts(element, other, form) for form in [*forms, *element[0]])


def parts(element, other, form):
    """Whether a form parts two elements."""
    return rise(measured(element, form)) != measured(other, rise(form))


def told_to_keep(told, other):
    """Whether the words tell of two told elements that the first one keeps rises beside the second one."""
    dimension, degree, sort = other[1:]
    if other[0] == "trimmed":
        return degree == told[2]
    return degree == told[2] - 1 and (told[2] >= 2 or sort == dimension)


def told_pairs():
    """Pairs of told elements of one dimension and sorts one after the other."""
    return [(told, other) for told in TOLD for other in TOLD if told[1] == other[1] and told[3] + 1 == other[3]]


class Measured(unittest.TestCase):
    def settled(self, name):
        """Some elements that settle, of all told ones that are small, told in many ways."""
        for told in SMALL:
            chance = chances(name, told)
            for element in (told_element(*told), mixed_element(chance, inner_element(*told))):
                yield chance, element

    def test_the_measures_are_the_same(self):
        for chance, element in self.settled("same"):
            if element[0][0][0] == 3 and len(element[0]) > 15:
                continue
            form = made_form(chance, *element[0][0][:2], 4, 3)
            found = both_ways(measured, element, form)
            self.assertTrue(is_form(found) and is_within(element[0], found))
            for weight in weights_of(element):
                self.assertEqual(reckoned(found, weight), reckoned(form, weight))

    def test_it_is_the_form_with_these_measures(self):
        for chance, element in self.settled("with"):
            form = made_form(chance, *element[0][0][:2], 5)
            weights = weights_of(element)
            told = tuple(measure(form, weight) for weight in weights)
            self.assertEqual(measured(element, form), form_with(element[0], weights, told))

    def test_the_form_itself_exactly_for_those_of_the_span(self):
        for chance, element in self.settled("itself"):
            own = together(element[0], [Fraction(chance.randint(-4, 4), chance.randint(1, 4)) for _ in element[0]])
            self.assertEqual(measured(element, own), own)
            self.assertEqual(measured(element, (*own[:2], ())), (*own[:2], ()))
            for degree in (1, 2, 5):
                form = made_form(chance, *own[:2], degree)
                self.assertEqual(measured(element, form) == form, is_within(element[0], form))
                self.assertEqual(measured(element, plus(own, form)) == plus(own, form), is_within(element[0], form))

    def test_twice_changes_nothing(self):
        for chance, element in self.settled("twice"):
            found = measured(element, made_form(chance, *element[0][0][:2], 6))
            self.assertEqual(measured(element, found), found)

    def test_sums_and_multiples(self):
        for chance, element in self.settled("sums"):
            form, other = (made_form(chance, *element[0][0][:2], 4) for _ in range(2))
            factor = as_pair(Fraction(chance.randint(-9, 9), chance.randint(1, 9)))
            own, more = measured(element, form), measured(element, other)
            self.assertEqual(measured(element, plus(form, other)), plus(own, more))
            self.assertEqual(measured(element, times_number(form, factor)), times_number(own, factor))

    def test_the_trace_is_measured_by_the_told_element_of_the_face(self):
        for kind, dimension, degree, sort in SMALL:
            element = told_element(kind, dimension, degree, sort)
            chance = chances("trace of measured", kind, dimension, degree, sort)
            for face in faces(dimension, max(sort, 1))[:-1]:
                form = made_form(chance, dimension, sort, 4, 4)
                own = told_element(kind, len(face) - 1, degree, sort)
                self.assertEqual(trace(measured(element, form), face), measured(own, trace(form, face)))

    def test_by_hand(self):
        square, cube = (1, 0, (((), (2,), ONE),)), (1, 0, (((), (3,), ONE),))
        self.assertEqual(measured(HAT, square), RISING)
        self.assertEqual(measured(LOOSE, square), (1, 0, (((), (0,), (-1, 6)), ((), (1,), ONE))))
        self.assertEqual(rise(measured(LOOSE, cube)), times_number(ALONG, (9, 10)))
        self.assertEqual(measured(LINE, rise(cube)), ALONG)

    def test_high_degrees_and_large_numbers(self):
        form = (2, 1, (((1,), (12, 0), BIG), ((2,), (3, 9), (-1, 10 ** 250))))
        for told in (("whole", 2, 1, 1), ("trimmed", 2, 2, 1)):
            element = told_element(*told)
            found = measured(element, form)
            for weight in weights_of(element):
                self.assertEqual(measure(found, weight), measure(form, weight))
            self.assertEqual(measured((tuple(times_number(each, BIG) for each in element[0]), element[1]), form), found)
        high = (((1, 0, (((), (12,), BIG),)),), ((), (STEP,)))
        found = measured(high, RISING)
        self.assertEqual(measure(found, ((0, 1), STEP)), (1, 3))

    def test_tests_up_to_the_degree_4(self):
        test = (1, 1, (((1,), (4,), ONE),))
        self.assertEqual(measured(((PLAIN,), ((), (test,))), RISING), times_number(PLAIN, (5, 6)))
        self.assertEqual(measured(((PLAIN,), ((), (plus(test, STEP),))), PLAIN), PLAIN)


class HowPartingFormsAreMade(unittest.TestCase):
    def test_the_measure_of_the_rise_is_told_by_measures_of_the_form(self):
        for dimension, sort in CELLS:
            chance = chances("stokes", dimension, sort)
            for own in range(sort + 1, dimension + 1):
                for _ in range(3):
                    form, test = made_form(chance, dimension, sort, 3), made_form(chance, own, own - sort - 1, 3)
                    parts_of_it = weights_of_rise(test)
                    self.assertTrue(all(is_weight(dimension, sort, part) for part in parts_of_it))
                    total = sum(reckoned(form, part) for part in parts_of_it)
                    self.assertEqual(total, reckoned(rise(form), (tuple(range(own + 1)), test)))

    def test_forms_that_are_felt_on_one_face(self):
        for dimension, sort in CELLS:
            chance = chances("felt", dimension, sort)
            for face in faces(dimension, sort):
                own = len(face) - 1
                plain = whole_span(own, 1, own - sort)
                for test in (plain[0], times_number(plain[-1], BIG), made_form(chance, own, own - sort, 3)):
                    if test[2]:
                        found = form_felt(dimension, face, test)
                        self.assertTrue(is_form(found) and found[:2] == (dimension, sort))
                        self.assertLessEqual(degree_of(found), own + 1 + degree_of(test))
                        self.assertGreater(reckoned(found, (face, test)), 0)
                        for other in faces(dimension, sort):
                            if not set(face) <= set(other):
                                self.assertEqual(trace(found, other)[2], ())


class ToldRises(unittest.TestCase):
    def test_told_ones_keep_rises(self):
        many = 0
        for told, other in told_pairs():
            if told_to_keep(told, other):
                many += 1
                with self.subTest(told=told, other=other):
                    self.assertIs(keeps_rises(told_element(*told), told_element(*other)), True)
                    self.assertIsNone(parting_form(told_element(*told), told_element(*other)))
        self.assertGreater(many, 60)

    def test_closed_forms_are_measured_to_closed_ones(self):
        many = 0
        for told, other in told_pairs():
            if told_to_keep(told, other) and small(told):
                chance, element = chances("closed", told, other), told_element(*told)
                forms = [rise(made_form(chance, told[1], told[3] - 1, 5))] if told[3] > 0 else [whole_span(told[1], 0, 0)[0]]
                for form in (*forms, (*element[0][0][:2], ())):
                    many += 1
                    self.assertIs(is_closed(form), True)
                    self.assertIs(is_closed(measured(element, form)), True)
        self.assertGreater(many, 50)

    def test_told_ones_by_all_forms_up_to_the_degree(self):
        for told, other in told_pairs():
            if told[1] < 3 and small(told) and small(other) or told[1] == 3 and told[2] == other[2] == 1:
                element, behind = told_element(*told), told_element(*other)
                self.assertIs(keeps_rises(element, behind), keeps_by_all_terms(element, behind))

    def test_some_that_do_not(self):
        for told, other in ((("whole", 1, 2, 0), ("whole", 1, 0, 1)), (("whole", 2, 1, 0), ("whole", 2, 1, 1)),
                            (("whole", 2, 2, 0), ("whole", 2, 2, 1)), (("trimmed", 2, 1, 1), ("trimmed", 2, 2, 2)),
                            (("whole", 3, 2, 1), ("trimmed", 3, 1, 2)), (("trimmed", 3, 2, 2), ("whole", 3, 2, 3)),
                            (("whole", 3, 1, 1), ("whole", 3, 1, 2))):
            element, behind = told_element(*told), told_element(*other)
            self.assertIs(keeps_rises(element, behind), False)
            self.assertTrue(parts(element, behind, parting_form(element, behind)))


class Rises(unittest.TestCase):
    def check(self, element, behind, expected):
        """What is told of two elements, and by which form they are parted."""
        self.assertTrue(is_element(element) and is_element(behind) and settles_cell(element) and settles_cell(behind))
        self.assertIs(both_ways(keeps_rises, element, behind), expected)
        found = both_ways(parting_form, element, behind)
        self.assertEqual(found is None, expected)
        if not expected:
            self.assertTrue(is_form(found) and found[:2] == element[0][0][:2])
            self.assertTrue(parts(element, behind, found))
            self.assertTrue(is_within(element[0], found) or degree_of(found) <= degree_to_look_at(element, behind))

    def test_all_told_pairs_and_told_otherwise(self):
        for told, other in told_pairs():
            if told[2] + other[2] < (9, 7, 5, 4)[told[1]]:
                chance = chances("pairs", told, other)
                element, behind = told_element(*told), told_element(*other)
                expected = keeps_rises(element, behind)
                self.assertTrue(expected or not told_to_keep(told, other))
                self.check(mixed_element(chance, element), mixed_element(chance, behind), expected)

    def test_tested_on_the_cell_alone(self):
        for told, other in told_pairs():
            if told[1] < 3 and told[2] < 3 and other[2] < 3:
                element, inner = told_element(*told), inner_element(*told)
                behind, inner_behind = told_element(*other), inner_element(*other)
                for first, second in ((element, inner_behind), (inner, behind), (inner, inner_behind)):
                    if len(first[0]) + len(second[0]) <= 12:
                        self.check(first, second, keeps_by_all_terms(first, second))

    def test_rises_outside_of_the_second_span_alone(self):
        first = told_element("whole", 1, 2, 0)
        for form in (plus(ALONG, times_number(STEP, (2, 1))), (1, 1, (((1,), (2,), ONE),))):
            behind = ((form,), ((), (PLAIN,)))
            self.check(first, behind, False)
            self.assertTrue(is_within(first[0], parting_form(first, behind)))
        self.check(HAT, ((plus(ALONG, STEP),), ((), (PLAIN,))), False)
        self.check(HAT, ((ALONG, STEP), ((), (PLAIN, plus(PLAIN, RISING)))), False)

    def test_a_test_whose_rise_is_not_among_the_tests(self):
        self.check(HAT, ((ALONG,), ((), (RISING,))), False)
        self.check(told_element("whole", 1, 2, 0), ((ALONG, STEP), ((), (RISING, PLAIN))), True)
        self.check(told_element("whole", 1, 2, 0), ((ALONG, STEP), ((), ((1, 0, (((), (2,), ONE),)), PLAIN))), False)

    def test_a_test_whose_traces_are_not_among_the_tests(self):
        self.check(LOOSE, LINE, False)
        # x (1 - x) has no traces, and the rise is among the tests: this one keeps rises without tests at the ends.
        hump = (1, 0, (((), (1,), ONE), ((), (2,), (-1, 1))))
        self.check(((PLAIN, RISING), ((), (ALONG, rise(hump)))), ((ALONG,), ((), (hump,))), True)
        self.check(((PLAIN, RISING), ((), (ALONG, rise(hump)))), ((ALONG,), ((), (plus(hump, PLAIN),))), False)
        self.check(((PLAIN, RISING), ((), (ALONG, STEP))), ((ALONG,), ((), (hump,))), True)

    def test_what_is_left_at_corners_alone(self):
        for dimension in (1, 2, 3):
            cell = tuple(range(1, dimension + 1))
            still, volume = (0,) * dimension, (dimension, dimension, ((cell, (0,) * dimension, ONE),))
            first = (((dimension, 0, (((), still, ONE),)),), ((),) * dimension + ((volume,),))
            self.check(first, told_element("trimmed", dimension, 1, 1), False)

    def test_a_trace_on_each_single_side(self):
        bubble = product(product(ON_THREE[0], ON_THREE[1]), ON_THREE[2])
        for first in range(3):
            for second in range(first):
                polynomial = product(ON_THREE[first], ON_THREE[second])
                for test, expected in ((polynomial, False), (bubble, True), (plus(bubble, ON_THREE[0]), False)):
                    with self.subTest(first=first, second=second, expected=expected):
                        element, behind = self.with_a_test_more(bubble, test)
                        self.check(element, behind, expected)

    def with_a_test_more(self, bubble, test):
        """The trimmed element and the one behind it, with a form and a test more, its rise a test of the first one."""
        forms, tests = told_element("trimmed", 2, 1, 1)
        for form in whole_span(2, 2, 1):
            more = product(bubble, form)
            element = ((*forms, more), (*tests[:2], (rise(test),)))
            behind = ((whole_span(2, 0, 2)[0], rise(more)), ((), (), (whole_span(2, 0, 0)[0], test)))
            if is_element(behind) and settles_cell(element) and settles_cell(behind):
                return element, behind
        raise AssertionError("no form will do")

    def test_each_sort_in_the_dimension_3(self):
        for sort in range(3):
            element, behind = told_element("trimmed", 3, 1, sort), told_element("trimmed", 3, 1, sort + 1)
            self.check(element, behind, True)
            own = sort + 1
            (test,) = behind[1][own]
            for more in whole_span(own, 1, 0)[1:]:
                other = changed(behind, own, (plus(test, more),))
                self.assertTrue(settles_cell(other))
                self.check(element, other, False)

    def test_made_tests(self):
        seen = {True: 0, False: 0}
        for told, other in told_pairs():
            if told[1] < 3 and told[2] < 3 and other[2] < 3 and told_to_keep(told, other):
                chance = chances("made", told, other)
                element, behind = told_element(*told), told_element(*other)
                for own, tests in enumerate(behind[1]):
                    if tests:
                        more = made_form(chance, *tests[0][:2], 2, 1)
                        second = changed(behind, own, (*tests[:-1], plus(tests[-1], more)))
                        if settles_cell(second):
                            expected = keeps_by_all_terms(element, second)
                            self.check(element, second, expected)
                            seen[expected] += 1
        self.assertGreater(min(seen.values()), 3, seen)

    def test_large_numbers_and_high_degrees_of_forms(self):
        forms = (plus(PLAIN, times_number(RISING, BIG)), times_number(RISING, (-BIG[1], BIG[0])))
        self.check((forms, HAT[1]), ((times_number(ALONG, BIG),), ((), (times_number(PLAIN, BIG),))), True)
        self.check((forms, HAT[1]), ((ALONG,), ((), (plus(times_number(PLAIN, BIG), RISING),))), False)
        power = (1, 0, (((), (12,), BIG),))
        self.check(((PLAIN, power), HAT[1]), ((rise(power),), ((), (PLAIN,))), True)
        self.check(((PLAIN, power), HAT[1]), ((ALONG,), ((), (PLAIN,))), False)
        high = (1, 0, (((), (4,), ONE),))
        self.check(HAT, ((ALONG,), ((), (high,))), False)

    def test_all_cells_have_pairs(self):
        told = {(told[1], told[3]) for told, _ in told_pairs()}
        self.assertEqual(told, {(dimension, sort) for dimension, sort in CELLS if 0 < dimension and sort < dimension})

    def test_made_first_elements(self):
        for told, other in told_pairs():
            if told[1] < 3 and told[2] < 3 and told_to_keep(told, other):
                chance = chances("first", told)
                element, behind = told_element(*told), told_element(*other)
                for own, tests in enumerate(element[1]):
                    for at in range(len(tests)):
                        turned = list(tests)
                        turned[at] = plus(tests[at], made_form(chance, *tests[at][:2], 2, 2))
                        first = (mixed(chance, element[0]), changed(element, own, tuple(turned))[1])
                        if settles_cell(first):
                            expected = keeps_by_all_terms(first, behind)
                            self.assertIs(keeps_rises(first, behind), expected)
                            found = parting_form(first, behind)
                            self.assertTrue(found is None if expected else parts(first, behind, found))


if __name__ == "__main__":
    unittest.main()
