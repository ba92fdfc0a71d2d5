"""Faces, led forms, traces, and sums over faces."""

import unittest
from fractions import Fraction
from itertools import combinations
from itertools import product as all_of

from cellrises.forms import is_form, plus, product, rise, sum_of, times_number
from cellrises.led import faces_of, is_face, led, sum_over, trace
from tests.helpers import (
    CELLS, as_pair, both_ways, chances, corner, determinant, form_of_numbers, integral, junk, led_arrow, led_place,
    made_form, made_place, number, numbers_of_form, value_at,
)

ONE = (1, 1)
NIL, HALF, TWO = (0, 1), (1, 2), (2, 1)
BIG = (10 ** 299 + 7, 10 ** 300 + 9)
TURN = (2, 1, (((1,), (0, 1), (-1, 1)), ((2,), (1, 0), ONE)))


def as_places(places):
    """Places as the package takes them."""
    return tuple(tuple(as_pair(worth) for worth in place) for place in places)


def times(first, second):
    """The product of two polynomials, dicts of numbers by powers."""
    found = {}
    for powers, worth in first.items():
        for others, factor in second.items():
            both = tuple(power + other for power, other in zip(powers, others))
            found[both] = found.get(both, 0) + worth * factor
    return found


def led_by_terms(form, places):
    """The led form, worked out term by term as the words tell: each number of the map multiplied as often as its power."""
    steps = [[far - near for far, near in zip(place, places[0])] for place in places[1:]]
    many, found = len(steps), {}
    for axes, powers, fraction in form[2]:
        polynomial = {(0,) * many: number(fraction)}
        for at, power in enumerate(powers):
            worths = {(0,) * many: places[0][at]}
            for step, other in enumerate(steps):
                worths[tuple(int(each == step) for each in range(many))] = other[at]
            for _ in range(power):
                polynomial = times(polynomial, worths)
        for chosen in combinations(range(many), form[1]):
            share = determinant([[steps[at][axis - 1] for axis in axes] for at in chosen])
            for key, worth in polynomial.items():
                pair = (tuple(at + 1 for at in chosen), key)
                found[pair] = found.get(pair, 0) + worth * share
    return form_of_numbers(many, form[1], found)


def alike_and_flat(chance, dimension, many):
    """Places: any, all alike, some alike, on one line, whole numbers, and beyond the cell."""
    some = [made_place(chance, dimension) for _ in range(many)]
    line = [tuple(near + at * (far - near) for near, far in zip(some[0], some[-1])) for at in range(many)]
    return [some, [some[0]] * many, [some[at // 2] for at in range(many)], line, line[::-1],
            [tuple(Fraction(chance.randint(-2, 2)) for _ in range(dimension)) for _ in range(many)],
            [tuple(Fraction(0) for _ in range(dimension))] * many]


class Led(unittest.TestCase):
    def test_term_by_term(self):
        for dimension, sort in CELLS:
            for many in range(sort + 1, 5):
                chance = chances("term by term", dimension, sort, many)
                for places in alike_and_flat(chance, dimension, many):
                    form = made_form(chance, dimension, sort, 3)
                    found = both_ways(led, form, as_places(places))
                    self.assertTrue(is_form(found))
                    self.assertEqual(found, led_by_terms(form, places))

    def test_each_single_term(self):
        for dimension, sort in CELLS:
            chance = chances("single", dimension, sort)
            for axes in combinations(range(1, dimension + 1), sort):
                for powers in ((0,) * dimension, (1,) * dimension, tuple(range(dimension)), tuple(range(dimension))[::-1]):
                    form = (dimension, sort, ((axes, powers, (-2, 3)),))
                    places = [made_place(chance, dimension) for _ in range(chance.randint(sort + 1, 4))]
                    self.assertEqual(led(form, as_places(places)), led_by_terms(form, places))

    def test_from_and_to_the_dimension_0(self):
        dot = (0, 0, (((), (), (-3, 7)),))
        for many in range(1, 5):
            self.assertEqual(led(dot, ((),) * many), (many - 1, 0, (((), (0,) * (many - 1), (-3, 7)),)))
        form = (3, 0, (((), (0, 0, 1), ONE), ((), (1, 2, 0), TWO)))
        self.assertEqual(led(form, ((HALF, (3, 1), (1, 3)),)), (0, 0, (((), (), (28, 3)),)))
        self.assertEqual(led((3, 0, ()), ((HALF, NIL, NIL),)), (0, 0, ()))

    def test_all_places_alike(self):
        place = (HALF, (-2, 3))
        self.assertEqual(led(TURN, (place,) * 3), (2, 1, ()))
        self.assertEqual(led((2, 0, (((), (1, 1), TWO),)), (place,) * 4), (3, 0, (((), (0, 0, 0), (-2, 3)),)))

    def test_in_one_flat(self):
        flat = (2, 2, (((1, 2), (0, 0), ONE),))
        self.assertEqual(led(flat, ((NIL, NIL), (ONE, ONE), (TWO, TWO))), (2, 2, ()))
        self.assertEqual(led(flat, ((NIL, NIL), (ONE, NIL), (NIL, ONE), (ONE, ONE))),
                         (3, 2, (((1, 2), (0, 0, 0), ONE), ((1, 3), (0, 0, 0), ONE), ((2, 3), (0, 0, 0), (-1, 1)))))

    def test_by_hand(self):
        self.assertEqual(led(TURN, ((NIL, NIL), (TWO, NIL), (NIL, TWO))), times_number(TURN, (4, 1)))
        self.assertEqual(led(TURN, ((NIL, NIL), (NIL, ONE), (ONE, NIL))), times_number(TURN, (-1, 1)))
        self.assertEqual(led(TURN, ((ONE, NIL), (NIL, ONE))), (1, 1, (((1,), (0,), ONE),)))
        self.assertEqual(led((1, 1, (((1,), (1,), ONE),)), ((ONE,), (NIL,), (NIL,))),
                         (2, 1, (((1,), (0, 0), (-1, 1)), ((1,), (0, 1), ONE), ((1,), (1, 0), ONE),
                                 ((2,), (0, 0), (-1, 1)), ((2,), (0, 1), ONE), ((2,), (1, 0), ONE))))

    def test_the_corners_in_order_change_nothing(self):
        for dimension, sort in CELLS:
            form = made_form(chances("still", dimension, sort), dimension, sort, 5)
            self.assertEqual(led(form, as_places([corner(dimension, at) for at in range(dimension + 1)])), form)

    def test_sums_products_and_rises(self):
        for dimension, sort in CELLS:
            for many in range(sort + 1, 5):
                chance = chances("led sums", dimension, sort, many)
                for places in alike_and_flat(chance, dimension, many):
                    places = as_places(places)
                    form, other = made_form(chance, dimension, sort, 3), made_form(chance, dimension, sort, 3)
                    own = led(form, places)
                    self.assertEqual(led(plus(form, other), places), plus(own, led(other, places)))
                    self.assertEqual(led(times_number(form, (-2, 3)), places), times_number(own, (-2, 3)))
                    for more_sort in range(min(many - 1, dimension) - sort + 1):
                        more = made_form(chance, dimension, more_sort, 2)
                        self.assertEqual(led(product(form, more), places), product(own, led(more, places)))
                    if sort < min(many - 1, dimension):
                        self.assertEqual(led(rise(form), places), rise(own))
                    if dimension == sort < many - 1:
                        self.assertEqual(rise(own), (many - 1, sort + 1, ()))

    def test_a_second_map(self):
        for dimension, sort in CELLS:
            for many in range(sort + 1, 5):
                for more in range(sort + 1, 5):
                    chance = chances("second", dimension, sort, many, more)
                    form = made_form(chance, dimension, sort, 3)
                    places = [made_place(chance, dimension) for _ in range(many)]
                    others = [made_place(chance, many - 1) for _ in range(more)]
                    at_once = [led_place(places, place) for place in others]
                    self.assertEqual(led(led(form, as_places(places)), as_places(others)), led(form, as_places(at_once)))

    def test_high_degrees_and_large_numbers(self):
        chance = chances("high led")
        places = [made_place(chance, 3) for _ in range(4)]
        for powers in ((12, 0, 0), (4, 4, 4), (0, 5, 7)):
            form = (3, 1, (((1,), powers, BIG), ((3,), powers, (-1, 10 ** 250))))
            for many in (2, 3, 4):
                self.assertEqual(led(form, as_places(places[:many])), led_by_terms(form, places[:many]))
        big = [(number(BIG), Fraction(1, 3)), (Fraction(10 ** 280), -number(BIG)), (Fraction(0), Fraction(1, 10 ** 290))]
        form = (2, 1, (((1,), (1, 2), BIG), ((2,), (0, 1), (1, 10 ** 300 + 1))))
        self.assertEqual(led(form, as_places(big)), led_by_terms(form, big))

    def test_many_terms_of_a_high_degree(self):
        powers = [each for each in all_of(range(12), repeat=3) if sum(each) <= 11][:360]
        form = (3, 0, tuple(((), each, as_pair(Fraction(1 + at, 1 + at % 5))) for at, each in enumerate(powers)))
        places = [(Fraction(1, 2), Fraction(0), Fraction(-1)), (Fraction(2), Fraction(1, 3), Fraction(1))]
        self.assertEqual(led(form, as_places(places)), led_by_terms(form, places))


class Sums(unittest.TestCase):
    def test_over_the_cell_and_its_faces(self):
        for dimension, sort in CELLS:
            chance = chances("sums over", dimension, sort)
            for face in faces_of(dimension, sort):
                if len(face) - 1 == sort:
                    for _ in range(4):
                        form = made_form(chance, dimension, sort, 4)
                        found = both_ways(sum_over, form, face)
                        self.assertEqual(found, sum_of(trace(form, face)))
                        polynomial = {pair[1]: worth for pair, worth in numbers_of_form(
                            led_by_terms(form, [corner(dimension, each) for each in face])).items()}
                        self.assertEqual(number(found), integral(polynomial, sort))

    def test_the_cell_itself_and_corners(self):
        for dimension in range(4):
            form = made_form(chances("itself", dimension), dimension, dimension, 4)
            self.assertEqual(sum_over(form, tuple(range(dimension + 1))), sum_of(form))
            polynomial = made_form(chances("at corners", dimension), dimension, 0, 4)
            for at in range(dimension + 1):
                self.assertEqual(number(sum_over(polynomial, (at,))), value_at(polynomial, corner(dimension, at), []))

    def test_sums_and_multiples(self):
        for dimension, sort in CELLS:
            chance = chances("sums of sums", dimension, sort)
            for face in faces_of(dimension, sort):
                if len(face) - 1 == sort:
                    form, other = made_form(chance, dimension, sort, 4), made_form(chance, dimension, sort, 4)
                    own, more = number(sum_over(form, face)), number(sum_over(other, face))
                    self.assertEqual(number(sum_over(plus(form, other), face)), own + more)
                    self.assertEqual(number(sum_over(times_number(form, (-5, 3)), face)), own * Fraction(-5, 3))
                    self.assertEqual(sum_over((dimension, sort, ()), face), NIL)

    def test_stokes_over_the_cell_and_over_faces(self):
        for dimension, sort in CELLS:
            if sort < dimension:
                chance = chances("stokes", dimension, sort)
                for face in faces_of(dimension, sort + 1):
                    if len(face) - 1 == sort + 1:
                        for degree in (0, 1, 5):
                            form = made_form(chance, dimension, sort, degree)
                            sides = [face[:at] + face[at + 1:] for at in range(len(face))]
                            total = sum((-1) ** at * number(sum_over(form, side)) for at, side in enumerate(sides))
                            self.assertEqual(number(sum_over(rise(form), face)), total)

    def test_by_hand(self):
        self.assertEqual([sum_over(TURN, side) for side in ((0, 1), (0, 2), (1, 2))], [NIL, NIL, ONE])
        self.assertEqual(sum_of(rise(TURN)), ONE)
        volume = (3, 3, (((1, 2, 3), (0, 0, 0), ONE),))
        self.assertEqual(sum_over(volume, (0, 1, 2, 3)), (1, 6))
        flow = (3, 2, (((2, 3), (1, 0, 0), ONE),))
        self.assertEqual([sum_over(flow, side) for side in faces_of(3, 2)[:4]], [NIL, NIL, NIL, (1, 6)])

    def test_high_degrees_and_large_numbers(self):
        form = (2, 1, (((1,), (0, 12), BIG), ((2,), (12, 0), (1, 10 ** 300))))
        self.assertEqual(number(sum_over(form, (1, 2))), (Fraction(1, 10 ** 300) - number(BIG)) / 13)


class Faces(unittest.TestCase):
    def test_is_face(self):
        for dimension in range(4):
            faces = [face for size in range(1, dimension + 2) for face in combinations(range(dimension + 1), size)]
            for face in faces:
                self.assertIs(is_face(dimension, face), True)
                self.assertIs(is_face(value=face, dimension=dimension), True)
            for wrong in junk() + [(), (dimension + 1,), (-1,), (0, 0), (1, 0), [0], (True,), (False,), (0, None)]:
                self.assertIs(is_face(dimension, wrong), False)

    def test_faces_of(self):
        self.assertEqual(faces_of(0, 0), ((0,),))
        self.assertEqual(faces_of(3, 2), ((0, 1, 2), (0, 1, 3), (0, 2, 3), (1, 2, 3), (0, 1, 2, 3)))
        for dimension in range(4):
            for least in range(dimension + 1):
                found = faces_of(dimension, least)
                self.assertEqual(faces_of(least=least, dimension=dimension), found)
                self.assertEqual(len(found), sum(len(list(combinations(range(dimension + 1), size))) for size in
                                                 range(least + 1, dimension + 2)))
                self.assertEqual(found, tuple(sorted(set(found), key=lambda face: (len(face), face))))
                self.assertTrue(all(is_face(dimension, face) and len(face) > least for face in found))


class Traces(unittest.TestCase):
    def check(self, chance, form, found, places):
        """Of arrows a led form tells what the form tells of the led arrows."""
        dimension = len(places) - 1
        self.assertTrue(is_form(found))
        self.assertEqual(found[:2], (dimension, form[1]))
        place = made_place(chance, dimension)
        arrows = [made_place(chance, dimension) for _ in range(form[1])]
        led = [led_arrow(places, arrow) for arrow in arrows]
        self.assertEqual(value_at(found, place, arrows), value_at(form, led_place(places, place), led))

    def test_what_it_tells_of_arrows(self):
        for dimension, sort in CELLS:
            chance = chances("trace", dimension, sort)
            for face in faces_of(dimension, sort):
                for _ in range(4):
                    form = made_form(chance, dimension, sort, 4)
                    found = trace(form, face)
                    self.assertEqual(trace(face=face, form=form), found)
                    self.check(chance, form, found, [corner(dimension, each) for each in face])

    def test_by_hand(self):
        turn = (2, 1, (((1,), (0, 1), (-1, 1)), ((2,), (1, 0), ONE)))
        self.assertEqual(trace(turn, (1, 2)), (1, 1, (((1,), (0,), ONE),)))
        self.assertEqual(trace(turn, (0, 1)), (1, 1, ()))
        self.assertEqual(trace(turn, (0, 1, 2)), turn)
        self.assertEqual(trace((2, 0, (((), (1, 0), ONE),)), (1,)), (0, 0, (((), (), ONE),)))

    def test_whole_cell_and_nought(self):
        for dimension, sort in CELLS:
            form = made_form(chances("whole", dimension, sort), dimension, sort, 5)
            self.assertEqual(trace(form, tuple(range(dimension + 1))), form)
            for face in faces_of(dimension, sort):
                self.assertEqual(trace((dimension, sort, ()), face), (len(face) - 1, sort, ()))

    def test_trace_of_a_trace(self):
        for dimension, sort in CELLS:
            form = made_form(chances("again", dimension, sort), dimension, sort, 4)
            for face in faces_of(dimension, sort):
                for part in faces_of(len(face) - 1, sort):
                    self.assertEqual(trace(trace(form, face), part), trace(form, tuple(face[at] for at in part)))

    def test_sums_products_and_rises(self):
        for dimension, sort in CELLS:
            chance = chances("traces of", dimension, sort)
            form, other = made_form(chance, dimension, sort, 3), made_form(chance, dimension, sort, 3)
            for face in faces_of(dimension, sort):
                self.assertEqual(trace(plus(form, other), face), plus(trace(form, face), trace(other, face)))
                for more_sort in range(len(face) - sort):
                    more = made_form(chance, dimension, more_sort, 3)
                    self.assertEqual(trace(product(form, more), face), product(trace(form, face), trace(more, face)))
                if sort < len(face) - 1:
                    self.assertEqual(trace(rise(form), face), rise(trace(form, face)))

    def test_high_degree_and_large_numbers(self):
        form = (3, 1, (((1,), (12, 0, 0), (10 ** 300, 7)), ((2,), (4, 4, 4), (-1, 10 ** 300))))
        chance = chances("high")
        for face in faces_of(3, 1):
            self.check(chance, form, trace(form, face), [corner(3, each) for each in face])


if __name__ == "__main__":
    unittest.main()
