"""Which elements join, which jump, which do against tests, and the counts of joined tuples."""

import unittest
from itertools import product as all_of
from math import comb

from cellrises.elements import is_element, settles_cell, told_element, weights_of
from cellrises.forms import is_form, plus, product, sum_of, times_number
from cellrises.led import faces_of, is_face, trace
from cellrises.measures import base_beside
from cellrises.meetings import against_pair, count_with, joins, joins_against, jumping_pair
from cellrises.spans import is_within, whole_span
from tests.helpers import (
    all_pairs, both_ways, chances, error_of, made_form, number, numbers_of_form, rank_of_numbers,
)
from tests.weighing import (
    BIG, DOT, ONE, SMALL, TOLD, changed, inner_element, mixed, mixed_element, reckoned, stars,
)

PLAIN, RISING = (1, 0, (((), (0,), ONE),)), (1, 0, (((), (1,), ONE),))
ALONG, STEP = (1, 1, (((1,), (0,), ONE),)), (1, 1, (((1,), (1,), ONE),))
HAT, LOOSE, LINE = ((PLAIN, RISING), ((DOT,), ())), ((PLAIN, RISING), ((), (ALONG, STEP))), ((ALONG,), ((), (PLAIN,)))
# On the sides 0 1 and 1 2 the traces are all of the degree 1, on the side 0 2 they are 1 and y y: each goes with itself.
TWISTED = (((2, 0, (((), (0, 0), ONE),)), (2, 0, (((), (1, 0), ONE),)), (2, 0, (((), (0, 2), ONE), ((), (1, 1), ONE)))),
           ((DOT,), (), ()))


def minus(form, other):
    """The difference of two forms."""
    return plus(form, times_number(other, (-1, 1)))


def faces_with(dimension, own):
    """The faces of a cell of one dimension."""
    return [face for face in faces_of(dimension, own) if len(face) == own + 1]


def weights_there(element, own):
    """The weights of a common face of a dimension."""
    return [(face, test) for face in faces_of(own, 0) for test in element[1][len(face) - 1]]


def sum_with(form, test):
    """The sum of the product of a form and a test on one cell."""
    return number(sum_of(product(form, test)))


def rows_of(element, face, other):
    """For all traces on a face, and on another one with - 1, the measures there and the terms, as dicts of numbers."""
    found, weights = [], weights_there(element, len(face) - 1)
    for sign, own in ((1, face), (-1, other)):
        for form in element[0]:
            led = trace(form, own)
            measures = {at: sign * reckoned(led, weight) for at, weight in enumerate(weights)}
            found.append((measures, {pair: sign * worth for pair, worth in numbers_of_form(led).items()}, led, sign))
    return found


def jumps_on(element, face, other):
    """Whether some difference of traces on two faces is not nought but has all measures 0: by ranks."""
    rows = rows_of(element, face, other)
    measured = rank_of_numbers([{(at, (), ()): worth for at, worth in row[0].items()} for row in rows])
    both = [{**{(at, (), ()): worth for at, worth in row[0].items()},
             **{(-1, *pair): worth for pair, worth in row[1].items()}} for row in rows]
    return rank_of_numbers(both) > measured


def jumps_against_on(element, face, other, test):
    """Whether some difference of traces on two faces with all measures 0 is not weighed to 0 by a test: by ranks."""
    rows = rows_of(element, face, other)
    measured = rank_of_numbers([row[0] for row in rows])
    return rank_of_numbers([{**row[0], -1: row[3] * sum_with(row[2], test)} for row in rows]) > measured


def where_it_jumps(element):
    """All pairs of faces on which an element jumps."""
    dimension, sort = element[0][0][:2]
    return [(face, other) for own in range(sort, dimension) for face, other in all_of(faces_with(dimension, own), repeat=2)
            if jumps_on(element, face, other)]


def where_it_jumps_against(element, test):
    """All pairs of faces on which an element jumps against a test."""
    return [(face, other) for face, other in all_of(faces_with(element[0][0][0], test[0]), repeat=2)
            if jumps_against_on(element, face, other, test)]


def lighter(told, many=10):
    """Whether a told element is small enough for ranks of all pairs of faces."""
    return len(told_element(*told)[0]) <= many


LIGHT = [told for told in SMALL if lighter(told)]


def spoilt(element):
    """The element with tests left out, put to nought, or told of another face's dimension alone."""
    for own, tests in enumerate(element[1]):
        if tests:
            yield changed(element, own, ())
            yield changed(element, own, tests[1:])
            yield changed(element, own, tests[:-1] + ((*tests[-1][:2], ()),))
    yield (element[0], ((),) * len(element[1]))


def added(element):
    """The element with tests more: they may be nought, or stand there twice."""
    dimension, sort = element[0][0][:2]
    for own in range(sort, dimension + 1):
        tests = element[1][own]
        yield changed(element, own, tests + ((own, own - sort, ()),))
        yield changed(element, own, tests + tests)
        yield changed(element, own, whole_span(own, 1, own - sort) + tests)


class Jumps(unittest.TestCase):
    def check_pair(self, element, pair, test=None):
        """What is asked of a jumping pair, and of one against a test."""
        dimension, sort = element[0][0][:2]
        self.assertIs(type(pair), tuple)
        face, other, first, second = pair
        self.assertTrue(is_face(dimension, face) and is_face(dimension, other))
        own = len(face) - 1
        self.assertEqual(len(other), own + 1)
        self.assertTrue(sort <= own < dimension)
        self.assertTrue(is_form(first) and is_form(second))
        self.assertTrue(is_within(element[0], first) and is_within(element[0], second))
        jump = minus(trace(first, face), trace(second, other))
        for weight in weights_there(element, own):
            self.assertEqual(reckoned(jump, weight), 0)
        if test is None:
            self.assertNotEqual(jump[2], ())
        else:
            self.assertEqual(own, test[0])
            self.assertNotEqual(sum_with(jump, test), 0)

    def check(self, element, expected):
        """What is told of an element, by whom it jumps."""
        self.assertTrue(is_element(element))
        self.assertIs(both_ways(joins, element), expected)
        found = both_ways(jumping_pair, element)
        self.assertEqual(found is None, expected)
        if not expected:
            self.check_pair(element, found)

    def check_against(self, element, test, expected):
        """What is told of an element beside a test, by whom it jumps."""
        self.assertIs(both_ways(joins_against, element, test), expected)
        found = both_ways(against_pair, element, test)
        self.assertEqual(found is None, expected)
        if not expected:
            self.check_pair(element, found, test)


class Joining(Jumps):
    def test_all_told_elements_join(self):
        for told in TOLD:
            with self.subTest(told=told):
                self.assertIs(joins(told_element(*told)), True)
                self.assertIsNone(jumping_pair(told_element(*told)))

    def test_told_otherwise(self):
        for told in SMALL:
            self.check(mixed_element(chances("joining", told), told_element(*told)), True)

    def test_told_ones_by_ranks(self):
        for told in LIGHT:
            self.assertEqual(where_it_jumps(told_element(*told)), [])

    def test_tests_left_out(self):
        seen = {True: 0, False: 0}
        for told in LIGHT:
            for element in spoilt(told_element(*told)):
                expected = where_it_jumps(element) == []
                seen[expected] += 1
                self.check(element, expected)
        self.assertGreater(min(seen.values()), 10, seen)

    def test_tests_added(self):
        for told in LIGHT:
            for element in added(told_element(*told)):
                self.check(element, True)

    def test_tests_added_to_those_that_jump(self):
        for told in [each for each in LIGHT if each[1] < 3]:
            for element in added(inner_element(*told)):
                self.check(element, where_it_jumps(element) == [])

    def test_any_forms_and_tests(self):
        seen = {True: 0, False: 0}
        for told in LIGHT:
            chance, element = chances("any", told), told_element(*told)
            pairs = all_pairs(told[1], told[3], told[2] + 1)
            for many in (1, 2, len(element[0])):
                forms = tuple((told[1], told[3], ((*pair, ONE),)) for pair in chance.sample(pairs, many))
                other = (mixed(chance, forms), element[1])
                expected = where_it_jumps(other) == []
                seen[expected] += 1
                self.check(other, expected)
        self.assertGreater(min(seen.values()), 10, seen)

    def test_just_where_faces_are_unlike(self):
        found = where_it_jumps(TWISTED)
        self.assertTrue(found and all(face != other for face, other in found))
        self.assertTrue(settles_cell(TWISTED))
        self.check(TWISTED, False)
        self.check((TWISTED[0], ((DOT,), (ALONG,), ())), True)

    def test_just_on_one_face_with_itself(self):
        # On the side 1 2 alone there is a trace that is 0 at both of its ends.
        hump = (2, 0, (((), (1, 1), ONE),))
        element = ((hump,), ((DOT,), (), ()))
        self.assertIn(((1, 2), (1, 2)), where_it_jumps(element))
        self.check(element, False)
        self.assertIn((1, 2), jumping_pair(element)[:2])

    def test_just_on_edges_in_the_dimension_3(self):
        element = told_element("whole", 3, 2, 0)
        without = changed(element, 1, ())
        self.check(without, False)
        self.assertEqual(len(jumping_pair(without)[0]), 2)
        for own in (1, 2):
            single = told_element("trimmed", 3, 1, own)
            self.check(changed(single, own, ()), False)

    def test_no_traces_where_tests_lack(self):
        bubble = (2, 0, (((), (1, 1), ONE), ((), (1, 2), (-1, 1)), ((), (2, 1), (-1, 1))))
        self.check(((bubble,), ((), (), ())), True)
        self.check(((bubble, plus(bubble, (2, 0, (((), (0, 0), ONE),)))), ((), (), ())), False)
        self.check(((bubble, plus(bubble, (2, 0, (((), (0, 0), ONE),)))), ((DOT,), (), ())), True)

    def test_the_sort_that_is_the_dimension(self):
        for dimension in (1, 2, 3):
            form = made_form(chances("highest", dimension), dimension, dimension, 3)
            form = plus(form, (dimension, dimension, ((tuple(range(1, dimension + 1)), (7,) * dimension, ONE),)))
            for tests in ((), (stars(form),), ((dimension, 0, ()),)):
                self.check(((form,), ((),) * dimension + (tests,)), True)

    def test_elements_need_not_settle(self):
        for element in (((PLAIN,), ((DOT,), ())), ((PLAIN, RISING), ((DOT, DOT), (ALONG,))), (HAT[0], ((DOT,), (STEP,)))):
            self.assertIs(settles_cell(element), False)
            self.check(element, True)
        self.check((HAT[0], ((), ())), False)
        self.check((HAT[0], (((0, 0, ()),), (ALONG, STEP))), False)

    def test_large_numbers(self):
        for told in (("trimmed", 2, 1, 1), ("whole", 2, 2, 0), ("trimmed", 3, 1, 2)):
            forms, tests = told_element(*told)
            big = tuple(plus(times_number(form, BIG), forms[0]) for form in forms)
            element = (big, tuple(tuple(times_number(test, (10 ** 300, 7)) for test in each) for each in tests))
            self.check(element, True)
            self.check(changed(element, told[1] - 1, ()), False)

    def test_high_degrees(self):
        form = (2, 1, (((1,), (12, 0), ONE), ((2,), (5, 7), BIG)))
        self.check(((form,), ((), (), ())), False)
        high = (1, 0, (((), (12,), ONE),))
        for tests, expected in (((PLAIN,), False), ((high,), False), ((PLAIN, RISING), True), ((PLAIN, high), True)):
            self.assertEqual(where_it_jumps(((form,), ((), tests, ()))) == [], expected)
            self.check(((form,), ((), tests, ())), expected)


class Against(Jumps):
    def some_tests(self, chance, told):
        """Some tests, with nought, of each dimension from the sort to below that of the cell."""
        for own in range(told[3], told[1]):
            yield (own, own - told[3], ())
            yield made_form(chance, own, own - told[3], 2, 3)
            yield whole_span(own, 1, own - told[3])[-1]

    def test_what_joins_does_so_against_all_tests(self):
        for told in SMALL:
            chance, element = chances("all tests", told), told_element(*told)
            for test in self.some_tests(chance, told):
                self.check_against(element, test, True)
                self.check_against(mixed_element(chance, element), test, True)

    def test_tests_left_out(self):
        seen = {True: 0, False: 0}
        for told in [each for each in LIGHT if each[1] < 3 or lighter(each, 6)]:
            chance = chances("against", told)
            for element in spoilt(told_element(*told)):
                for test in self.some_tests(chance, told):
                    expected = where_it_jumps_against(element, test) == []
                    seen[expected] += 1
                    self.check_against(element, test, expected)
        self.assertGreater(min(seen.values()), 10, seen)

    def test_against_its_own_tests_and_their_sums(self):
        for told in LIGHT:
            chance = chances("own tests", told)
            for element in (told_element(*told), *spoilt(told_element(*told))):
                for own in range(told[3], told[1]):
                    total = (own, own - told[3], ())
                    for test in element[1][own]:
                        total = plus(total, times_number(test, (chance.randint(-3, 3), 1)))
                        self.check_against(element, test, True)
                    self.check_against(element, total, True)

    def test_weaker_than_joining(self):
        # Of the degree 2 the means over sides agree, the traces do not.
        loose = (whole_span(2, 1, 0), ((), (ALONG,), ()))
        self.assertIs(joins(loose), False)
        self.check_against(loose, ALONG, True)
        self.check_against(loose, STEP, False)
        self.check_against(loose, DOT, False)
        self.check_against(loose, (1, 1, ()), True)
        self.check_against(loose, plus(ALONG, times_number(STEP, (0, 1))), True)

    def test_just_where_faces_are_unlike(self):
        found = where_it_jumps_against(TWISTED, ALONG)
        self.assertTrue(found and all(face != other for face, other in found))
        self.check_against(TWISTED, ALONG, False)
        self.check_against(TWISTED, DOT, True)

    def test_tests_of_the_faces_of_a_face_count(self):
        # Simpson: with the ends and the mean a test of the degree 1 against those of the degree 3 would need one more.
        element = told_element("whole", 2, 2, 0)
        self.check_against(element, (1, 1, (((1,), (9,), BIG),)), True)
        self.check_against(changed(element, 0, ()), STEP, False)
        self.check_against(changed(element, 1, ()), ALONG, False)

    def test_by_hand(self):
        self.assertEqual([joins_against(LOOSE, DOT), joins_against(HAT, DOT)], [False, True])
        self.check_against(LOOSE, DOT, False)
        self.assertEqual(jumping_pair(HAT), None)
        self.assertIn(jumping_pair(LOOSE)[0], ((0,), (1,)))

    def test_large_numbers_and_high_degrees(self):
        form = (1, 0, (((), (0,), BIG), ((), (12,), ONE)))
        self.check_against(((form, RISING), ((), ())), times_number(DOT, (10 ** 390, 3)), False)
        self.check_against(((form, RISING), (((0, 0, (((), (), (1, 10 ** 390)),)),), ())), times_number(DOT, BIG), True)


class Counts(unittest.TestCase):
    def test_faces_times_tests(self):
        for told in SMALL:
            chance, element = chances("counts", told), told_element(*told)
            for height in (0, 1, 9, 10 ** 300):
                counts = tuple(chance.randint(0, height) for _ in range(told[1] + 1))
                expected = sum(count * len(tests) for count, tests in zip(counts, element[1]))
                found = both_ways(count_with, element, counts)
                self.assertIs(type(found), int)
                self.assertEqual(found, expected)
                self.assertEqual(count_with(mixed_element(chance, element), counts), expected)

    def test_of_one_cell_as_many_as_forms(self):
        for told in TOLD:
            if told[2] < 4:
                element = told_element(*told)
                counts = tuple(comb(told[1] + 1, own + 1) for own in range(told[1] + 1))
                self.assertEqual(count_with(element, counts), len(element[0]))

    def test_by_hand(self):
        self.assertEqual(count_with(HAT, (4, 3)), 4)
        self.assertEqual(count_with(LINE, (4, 3)), 3)
        self.assertEqual(count_with(told_element("trimmed", 2, 1, 1), (4, 5, 2)), 5)
        self.assertEqual(count_with(told_element("whole", 2, 3, 0), (4, 5, 2)), 4 + 10 + 2)
        self.assertEqual(count_with(HAT, (10 ** 399, 0)), 10 ** 399)

    def test_whether_or_not_there_is_such_a_parting(self):
        self.assertEqual(count_with(HAT, (0, 7)), 0)
        self.assertEqual(count_with(HAT, (7, 0)), 7)

    def test_last_not_settled_ahead_of_not_joining(self):
        names = [error_of(count_with, element, (4, 3))[0].__name__ for element in
                 (LOOSE, (HAT[0], ((), ())), (HAT[0][:1], HAT[1]), (HAT[0], ((DOT, DOT), ())), ((PLAIN,), ((), (ALONG,))))]
        self.assertEqual(names, ["NotJoining", "NotSettled", "NotSettled", "NotSettled", "NotJoining"])


class WhatJoiningIsFor(unittest.TestCase):
    def test_the_base_beside_the_weights_of_a_face_tells_the_trace_there(self):
        """Of an element that settles and joins, forms with the same numbers on a face have the same trace."""
        for told in LIGHT:
            element = told_element(*told)
            weights = weights_of(element)
            for weight, form in zip(weights, base_beside(element[0], weights)):
                for face in faces_of(told[1], told[3]):
                    if not set(weight[0]) <= set(face):
                        self.assertEqual(trace(form, face)[2], ())

    def test_traces_of_told_elements_are_those_of_the_face(self):
        for kind, dimension, degree, sort in LIGHT:
            for own in range(max(sort, 1), dimension):
                if degree > 0:
                    self.assertEqual(told_element(kind, own, degree, sort)[1], told_element(kind, dimension, degree, sort)[1][:own + 1])


if __name__ == "__main__":
    unittest.main()
