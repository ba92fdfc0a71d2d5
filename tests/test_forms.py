"""Forms: their sums, products, rises, lowered forms and sums over the cell."""

import unittest
from fractions import Fraction

from cellrises.forms import degree_of, is_form, lowered, plus, product, rise, sum_of, times_number
from cellrises.led import trace
from tests.helpers import (
    CELLS, all_pairs, as_pair, chances, form_of_numbers, integral, made_form, made_place, number, numbers_of_form, product_at,
    together, value_at, wrong_forms,
)

NIL, ONE, LESS = (0, 1), (1, 1), (-1, 1)
LARGE = (10 ** 399 + 1, 3 ** 800)


def nought(dimension, sort):
    """The form without terms."""
    return (dimension, sort, ())


def many_forms(name, times=12, degree=4, cells=CELLS):
    """Some forms of each of the cells and sorts."""
    for dimension, sort in cells:
        chance = chances(name, dimension, sort)
        yield nought(dimension, sort)
        for _ in range(times):
            yield made_form(chance, dimension, sort, degree)


def pairs_of_sorts():
    """Dimensions with two sorts that are together at most the dimension."""
    return [(dimension, sort, other) for dimension, sort in CELLS for other in range(dimension - sort + 1)]


def full_form(dimension, sort, degree, fraction):
    """The form with all terms up to a degree, the same number in each."""
    return (dimension, sort, tuple((*pair, fraction) for pair in all_pairs(dimension, sort, degree)))


class IsForm(unittest.TestCase):
    def test_forms(self):
        for form in many_forms("is form"):
            with self.subTest(form=form):
                self.assertIs(is_form(form), True)
                self.assertIs(is_form(value=form), True)

    def test_edges(self):
        self.assertIs(is_form((0, 0, (((), (), (-7, 3)),))), True)
        self.assertIs(is_form((3, 3, (((1, 2, 3), (12, 0, 0), LARGE),))), True)
        self.assertIs(is_form((3, 2, (((1, 2), (0, 0, 9), ONE), ((1, 3), (0, 0, 0), LESS)))), True)
        self.assertIs(is_form((2, 0, (((), (0, 9), ONE), ((), (1, 0), LESS)))), True)
        self.assertIs(is_form(full_form(3, 1, 6, LARGE)), True)

    def test_no_forms(self):
        for value in wrong_forms():
            with self.subTest(value=value):
                self.assertIs(is_form(value), False)


class Degree(unittest.TestCase):
    def test_degree(self):
        for form in many_forms("degree"):
            sums = [sum(powers) for _, powers, _ in form[2]]
            self.assertEqual(degree_of(form), max(sums) if sums else None)
            self.assertEqual(degree_of(form=form), degree_of(form))

    def test_edges(self):
        self.assertEqual(degree_of((0, 0, (((), (), ONE),))), 0)
        self.assertEqual(degree_of((2, 0, (((), (0, 3), ONE), ((), (1, 0), ONE)))), 3)
        self.assertEqual(degree_of((3, 3, (((1, 2, 3), (4, 4, 4), ONE),))), 12)
        for dimension, sort in CELLS:
            self.assertIsNone(degree_of(nought(dimension, sort)))


class Sums(unittest.TestCase):
    def test_plus(self):
        for dimension, sort in CELLS:
            chance = chances("plus", dimension, sort)
            for _ in range(20):
                form, other = made_form(chance, dimension, sort, 2), made_form(chance, dimension, sort, 2)
                found = plus(form, other)
                self.assertEqual(found, together((form, other), (1, 1)))
                self.assertTrue(is_form(found))
                self.assertEqual(found, plus(other, form))
                self.assertEqual(found, plus(other=other, form=form))

    def test_what_goes_away(self):
        for form in many_forms("away"):
            none = nought(*form[:2])
            self.assertEqual(plus(form, times_number(form, LESS)), none)
            self.assertEqual(plus(form, none), form)
            self.assertEqual(plus(none, form), form)
            self.assertEqual(times_number(form, NIL), none)
            self.assertEqual(times_number(form, ONE), form)
            self.assertEqual(times_number(form, (2, 1)), plus(form, form))

    def test_some_terms_go_away(self):
        form, other = (1, 0, (((), (0,), (1, 2)), ((), (1,), ONE))), (1, 0, (((), (0,), (-1, 2)), ((), (2,), (1, 3))))
        self.assertEqual(plus(form, other), (1, 0, (((), (1,), ONE), ((), (2,), (1, 3)))))

    def test_times_number(self):
        for form in many_forms("times"):
            for worth in (Fraction(-3, 7), Fraction(6), Fraction(1, 10 ** 200), Fraction(*LARGE)):
                found = times_number(form, as_pair(worth))
                self.assertEqual(found, together((form,), (worth,)))
                self.assertEqual(times_number(fraction=as_pair(worth), form=form), found)

    def test_large_numbers(self):
        chance = chances("large")
        for dimension, sort in CELLS:
            form = made_form(chance, dimension, sort, 12, many=30, height=10 ** 300)
            other = made_form(chance, dimension, sort, 12, many=30, height=10 ** 300)
            self.assertEqual(plus(form, other), together((form, other), (1, 1)))
            self.assertEqual(plus(plus(form, other), times_number(other, LESS)), form)


class Products(unittest.TestCase):
    def test_what_it_tells_of_arrows(self):
        for dimension, sort, other_sort in pairs_of_sorts():
            chance = chances("product", dimension, sort, other_sort)
            for _ in range(6):
                form, other = made_form(chance, dimension, sort, 3), made_form(chance, dimension, other_sort, 3)
                found = product(form, other)
                self.assertTrue(is_form(found))
                self.assertEqual(found[:2], (dimension, sort + other_sort))
                place = made_place(chance, dimension)
                arrows = [made_place(chance, dimension) for _ in range(sort + other_sort)]
                self.assertEqual(value_at(found, place, arrows), product_at(form, other, place, arrows))
                self.assertEqual(product(other=other, form=form), found)

    def test_signs_of_axes(self):
        for first, second, both, sign in (
            ((1,), (2,), (1, 2), 1), ((2,), (1,), (1, 2), -1), ((1,), (2, 3), (1, 2, 3), 1), ((2,), (1, 3), (1, 2, 3), -1),
            ((3,), (1, 2), (1, 2, 3), 1), ((1, 3), (2,), (1, 2, 3), -1), ((2, 3), (1,), (1, 2, 3), 1), ((3,), (2,), (2, 3), -1),
        ):
            form, other = (3, len(first), ((first, (0, 0, 0), ONE),)), (3, len(second), ((second, (1, 0, 2), (3, 2)),))
            expected = (3, len(both), ((both, (1, 0, 2), (3 * sign, 2)),))
            self.assertEqual(product(form, other), expected)

    def test_axis_in_both(self):
        form = (3, 1, (((2,), (0, 0, 0), ONE),))
        self.assertEqual(product(form, form), nought(3, 2))
        self.assertEqual(product(form, (3, 2, (((1, 2), (0, 0, 0), ONE), ((2, 3), (0, 0, 0), ONE)))), nought(3, 3))

    def test_order_of_three_does_not_matter(self):
        for dimension, sort, other_sort in pairs_of_sorts():
            for third_sort in range(dimension - sort - other_sort + 1):
                chance = chances("three", dimension, sort, other_sort, third_sort)
                for _ in range(5):
                    form, other, third = [made_form(chance, dimension, each, 3) for each in (sort, other_sort, third_sort)]
                    self.assertEqual(product(product(form, other), third), product(form, product(other, third)))

    def test_exchanged(self):
        for dimension, sort, other_sort in pairs_of_sorts():
            chance = chances("exchanged", dimension, sort, other_sort)
            for _ in range(8):
                form, other = made_form(chance, dimension, sort, 3), made_form(chance, dimension, other_sort, 3)
                sign = LESS if sort % 2 == 1 and other_sort % 2 == 1 else ONE
                self.assertEqual(product(form, other), times_number(product(other, form), sign))

    def test_sums_and_numbers(self):
        for dimension, sort, other_sort in pairs_of_sorts():
            chance = chances("spread", dimension, sort, other_sort)
            for _ in range(4):
                form, more = made_form(chance, dimension, sort, 3), made_form(chance, dimension, sort, 3)
                other = made_form(chance, dimension, other_sort, 3)
                self.assertEqual(product(plus(form, more), other), plus(product(form, other), product(more, other)))
                self.assertEqual(product(times_number(form, (-2, 3)), other), times_number(product(form, other), (-2, 3)))
                self.assertEqual(product(form, nought(dimension, other_sort)), nought(dimension, sort + other_sort))

    def test_ordinary_polynomials(self):
        one_more = (1, 0, (((), (0,), ONE), ((), (1,), ONE)))
        one_less = (1, 0, (((), (0,), LESS), ((), (1,), ONE)))
        self.assertEqual(product(one_more, one_less), (1, 0, (((), (0,), LESS), ((), (2,), ONE))))

    def test_high_degrees_and_many_terms(self):
        form = full_form(3, 0, 6, ONE)
        found = product(form, form)
        self.assertEqual(len(found[2]), 455)
        self.assertEqual(degree_of(found), 12)
        self.assertEqual(value_at(found, (2, 3, 5), ()), value_at(form, (2, 3, 5), ()) ** 2)
        large = (2, 1, (((1,), (12, 0), LARGE), ((2,), (0, 12), (-1, 10 ** 399))))
        square = product((2, 0, (((), (0, 12), LARGE),)), large)
        self.assertEqual(numbers_of_form(square)[((1,), (12, 12))], Fraction(*LARGE) ** 2)


class Rises(unittest.TestCase):
    BELOW = [(dimension, sort) for dimension, sort in CELLS if sort < dimension]

    def test_by_growth(self):
        for dimension, sort in self.BELOW:
            for form in many_forms(("growth", dimension, sort), cells=[(dimension, sort)]):
                numbers = {}
                for axes, powers, worth in form[2]:
                    for axis in range(1, dimension + 1):
                        if powers[axis - 1] > 0 and axis not in axes:
                            less = tuple(power - (at == axis) for at, power in enumerate(powers, 1))
                            pair = (tuple(sorted((axis, *axes))), less)
                            sign = (-1) ** sum(each < axis for each in axes)
                            numbers[pair] = numbers.get(pair, 0) + sign * powers[axis - 1] * number(worth)
                self.assertEqual(rise(form), form_of_numbers(dimension, sort + 1, numbers))
                self.assertEqual(rise(form=form), rise(form))
                self.assertTrue(is_form(rise(form)))

    def test_by_hand(self):
        self.assertEqual(rise((1, 0, (((), (3,), (1, 2)),))), (1, 1, (((1,), (2,), (3, 2)),)))
        self.assertEqual(rise((2, 1, (((1,), (0, 2), ONE),))), (2, 2, (((1, 2), (0, 1), (-2, 1)),)))
        self.assertEqual(rise((3, 2, (((1, 3), (1, 1, 1), ONE),))), (3, 3, (((1, 2, 3), (1, 0, 1), LESS),)))
        self.assertEqual(rise((2, 0, (((), (0, 0), (5, 1)),))), nought(2, 1))

    def test_rise_of_a_rise(self):
        for form in many_forms("twice", cells=[(dimension, sort) for dimension, sort in CELLS if sort < dimension - 1]):
            self.assertEqual(rise(rise(form)), nought(form[0], form[1] + 2))

    def test_rise_of_a_product(self):
        for dimension, sort, other_sort in pairs_of_sorts():
            if sort + other_sort < dimension:
                chance = chances("leibniz", dimension, sort, other_sort)
                for _ in range(8):
                    form, other = made_form(chance, dimension, sort, 3), made_form(chance, dimension, other_sort, 3)
                    sign = LESS if sort % 2 == 1 else ONE
                    parts = (product(rise(form), other), times_number(product(form, rise(other)), sign))
                    self.assertEqual(rise(product(form, other)), plus(*parts))

    def test_sums(self):
        for dimension, sort in self.BELOW:
            chance = chances("rise of sums", dimension, sort)
            form, other = made_form(chance, dimension, sort, 4), made_form(chance, dimension, sort, 4)
            self.assertEqual(rise(plus(form, other)), plus(rise(form), rise(other)))

    def test_high_degree(self):
        form = full_form(3, 1, 12, (-10 ** 300, 7))
        self.assertEqual(degree_of(rise(form)), 11)
        self.assertEqual(rise(rise(form)), nought(3, 3))


class Lowered(unittest.TestCase):
    FROM_ONE = [(dimension, sort) for dimension, sort in CELLS if sort > 0]

    def test_by_arrows(self):
        """The first arrow runs from corner 0 to the place itself."""
        for dimension, sort in self.FROM_ONE:
            chance = chances("lowered", dimension, sort)
            for form in many_forms(("lowered", dimension, sort), cells=[(dimension, sort)]):
                found, place = lowered(form), made_place(chance, dimension)
                arrows = [made_place(chance, dimension) for _ in range(sort - 1)]
                self.assertTrue(is_form(found))
                self.assertEqual(found[:2], (dimension, sort - 1))
                self.assertEqual(value_at(found, place, arrows), value_at(form, place, [place, *arrows]))
                self.assertEqual(lowered(form=form), found)

    def test_by_hand(self):
        self.assertEqual(lowered((1, 1, (((1,), (2,), (1, 3)),))), (1, 0, (((), (3,), (1, 3)),)))
        volume = (3, 3, (((1, 2, 3), (0, 0, 0), ONE),))
        sides = (3, 2, (((1, 2), (0, 0, 1), ONE), ((1, 3), (0, 1, 0), LESS), ((2, 3), (1, 0, 0), ONE)))
        self.assertEqual(lowered(volume), sides)
        self.assertEqual(lowered((2, 1, (((1,), (0, 1), ONE), ((2,), (1, 0), LESS)))), nought(2, 0))

    def test_lowered_twice(self):
        for form in many_forms("lowered twice", cells=[(dimension, sort) for dimension, sort in CELLS if sort > 1]):
            self.assertEqual(lowered(lowered(form)), nought(form[0], form[1] - 2))

    def test_rise_of_the_lowered_and_lowered_rise(self):
        for dimension, sort in CELLS:
            for total in (0, 1, 2, 5, 12):
                chance = chances("koszul", dimension, sort, total)
                pairs = [pair for pair in all_pairs(dimension, sort, total) if sum(pair[1]) == total]
                numbers = {pair: Fraction(chance.randint(-9, 9), chance.randint(1, 9)) for pair in pairs}
                form = form_of_numbers(dimension, sort, numbers)
                found = nought(dimension, sort)
                if sort > 0:
                    found = plus(found, rise(lowered(form)))
                if sort < dimension:
                    found = plus(found, lowered(rise(form)))
                self.assertEqual(found, times_number(form, (total + sort, 1)))


class SumsOverCells(unittest.TestCase):
    def test_integral(self):
        for dimension in range(4):
            for form in many_forms(("integral", dimension), cells=[(dimension, dimension)], times=20):
                polynomial = {powers: number(fraction) for _, powers, fraction in form[2]}
                self.assertEqual(sum_of(form), as_pair(integral(polynomial, dimension)))
                self.assertEqual(sum_of(form=form), sum_of(form))

    def test_by_hand(self):
        self.assertEqual(sum_of((0, 0, (((), (), (-7, 4)),))), (-7, 4))
        self.assertEqual(sum_of((1, 1, (((1,), (3,), ONE),))), (1, 4))
        self.assertEqual(sum_of((3, 3, (((1, 2, 3), (0, 0, 0), ONE),))), (1, 6))
        self.assertEqual(sum_of((3, 3, (((1, 2, 3), (1, 2, 3), ONE),))), (1, 30240))
        for dimension in range(4):
            self.assertEqual(sum_of(nought(dimension, dimension)), NIL)

    def test_sum_that_goes_away(self):
        self.assertEqual(sum_of((1, 1, (((1,), (0,), (1, 2)), ((1,), (1,), LESS)))), NIL)

    def test_sum_of_the_rise_is_that_over_the_rim(self):
        for dimension in (1, 2, 3):
            corners = tuple(range(dimension + 1))
            for form in many_forms(("stokes", dimension), cells=[(dimension, dimension - 1)], times=15):
                over = sum(
                    (-1) ** at * number(sum_of(trace(form, corners[:at] + corners[at + 1:]))) for at in corners
                )
                self.assertEqual(sum_of(rise(form)), as_pair(over))

    def test_large(self):
        form = (3, 3, (((1, 2, 3), (0, 0, 0), (10 ** 399, 7)), ((1, 2, 3), (4, 4, 4), (-1, 10 ** 399))))
        expected = Fraction(10 ** 399, 42) - Fraction(24 ** 3, 10 ** 399 * 1307674368000)
        self.assertEqual(sum_of(form), as_pair(expected))


if __name__ == "__main__":
    unittest.main()
