"""Wrong arguments of meetings.py: which error is raised, what it keeps, and which one comes first."""

import unittest

from cellrises.elements import told_element
from cellrises.errors import InvalidCounts, InvalidElement, InvalidTest, NotJoining, NotSettled
from cellrises.meetings import against_pair, count_with, joins, joins_against, jumping_pair
from tests.helpers import CELLS, Refusals, error_of, junk, wrong_forms
from tests.weighing import BIG, DOT, ONE, SMALL, changed, inner_element, wrong_elements

PLAIN, RISING = (1, 0, (((), (0,), ONE),)), (1, 0, (((), (1,), ONE),))
ALONG, STEP = (1, 1, (((1,), (0,), ONE),)), (1, 1, (((1,), (1,), ONE),))
HAT, LOOSE, UNSETTLED = ((PLAIN, RISING), ((DOT,), ())), ((PLAIN, RISING), ((), (ALONG, STEP))), ((PLAIN, RISING), ((), (ALONG,)))
BESIDE = (joins_against, against_pair)
TOLD = [told for told in SMALL if told[0] == "trimmed" and told[2] == 1]


def wrong_counts(many):
    """Values that are no tuples of so many counts, with the index that is kept."""
    found = [(each, None) for each in junk() if not isinstance(each, tuple) or len(each) != many]
    found += [((), None), ((1,) * (many - 1), None), ((1,) * (many + 1), None), ([1] * many, None), (5, None), ({1: 1}, None)]
    lots = [each for each in junk() if type(each) is not int] + [-1, -10 ** 399, True, False, None, "1", (1,), [1]]
    for at in range(many):
        found += [((7,) * at + (each,) + (0,) * (many - at - 1), at) for each in lots]
        found += [((7,) * at + (each,) + (None,) * (many - at - 1), at) for each in lots[::5]]
    return found


class Elements(Refusals):
    def test_no_element(self):
        for wrong in wrong_elements():
            for call in (joins, jumping_pair):
                self.refuses(InvalidElement, {"given": wrong}, call, wrong)
            for call in BESIDE:
                self.refuses(InvalidElement, {"given": wrong}, call, wrong, DOT)
            self.refuses(InvalidElement, {"given": wrong}, count_with, wrong, (1, 1))

    def test_no_element_comes_first(self):
        for wrong in wrong_elements()[::9]:
            for call in (*BESIDE, count_with):
                for second in (None, (), [1], -1, (None,)):
                    self.refuses(InvalidElement, {"given": wrong}, call, wrong, second)

    def test_tests_may_have_any_degree(self):
        high = ((PLAIN, RISING), ((), ((1, 1, (((1,), (12,), ONE),)), ALONG)))
        for call in (joins, jumping_pair):
            self.assertIsNone(error_of(call, high))
        for call in BESIDE:
            self.assertIsNone(error_of(call, high, DOT))
        self.refuses(NotJoining, {}, count_with, high, (1, 1))


class Tests(Refusals):
    def test_no_form(self):
        for told in TOLD:
            for wrong in wrong_forms():
                for call in BESIDE:
                    self.refuses(InvalidTest, {"given": wrong}, call, told_element(*told), wrong)

    def test_forms_of_other_cells_and_sorts(self):
        for told in TOLD:
            for dimension, sort in CELLS:
                for test in ((dimension, sort, ()), (dimension, sort, ((tuple(range(1, sort + 1)), (1,) * dimension, BIG),))):
                    right = dimension - sort == told[3] and dimension < told[1]
                    for call in BESIDE:
                        if right:
                            self.assertIsNone(error_of(call, told_element(*told), test))
                        else:
                            self.refuses(InvalidTest, {"given": test}, call, told_element(*told), test)

    def test_none_for_the_sort_that_is_the_dimension(self):
        for dimension in (1, 2, 3):
            element = told_element("trimmed", dimension, 1, dimension)
            for test in ((dimension, 0, ()), (dimension - 1, 0, ()), (0, 0, ()), element[1][dimension][0]):
                for call in BESIDE:
                    self.refuses(InvalidTest, {"given": test}, call, element, test)

    def test_whether_or_not_it_settles_and_joins(self):
        for element in (HAT, LOOSE, UNSETTLED):
            for wrong in (None, PLAIN, ALONG, (0, 0), [0, 0, ()], ((0, 0, ()),)):
                for call in BESIDE:
                    self.refuses(InvalidTest, {"given": wrong}, call, element, wrong)


class Counts(Refusals):
    def test_no_counts(self):
        for told in TOLD:
            for wrong, index in wrong_counts(told[1] + 1):
                self.refuses(InvalidCounts, {"index": index}, count_with, told_element(*told), wrong)

    def test_ahead_of_not_settled_and_not_joining(self):
        for element in (LOOSE, UNSETTLED):
            for wrong, index in wrong_counts(2):
                self.refuses(InvalidCounts, {"index": index}, count_with, element, wrong)

    def test_large_counts_are_right(self):
        self.assertIsNone(error_of(count_with, HAT, (10 ** 399, 0)))

    def test_last_not_settled_then_not_joining(self):
        for counts in ((4, 3), (0, 0), (10 ** 300, 1)):
            self.refuses(NotSettled, {}, count_with, UNSETTLED, counts)
            self.refuses(NotSettled, {}, count_with, (HAT[0], ((), ())), counts)
            self.refuses(NotSettled, {}, count_with, (HAT[0], ((DOT,), (ALONG,))), counts)
            self.refuses(NotJoining, {}, count_with, LOOSE, counts)

    def test_each_dimension(self):
        for told in SMALL:
            if told[3] < told[1] and len(told_element(*told)[0]) < 20:
                element = inner_element(*told)
                counts = (2,) * (told[1] + 1)
                self.refuses(NotJoining, {}, count_with, element, counts)
                self.refuses(NotSettled, {}, count_with, changed(element, told[1], element[1][-1][1:]), counts)
                self.refuses(NotSettled, {}, count_with, changed(told_element(*told), told[1], element[1][-1]), counts)


if __name__ == "__main__":
    unittest.main()
