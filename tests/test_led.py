"""Faces and traces, as far as spans need them."""

import unittest
from itertools import combinations

from cellrises.forms import is_form, plus, product, rise
from cellrises.led import faces_of, is_face, led_form, trace
from tests.helpers import (
    CELLS, as_pair, chances, corner, junk, led_arrow, led_place, made_form, made_place, value_at,
)

ONE = (1, 1)


class Faces(unittest.TestCase):
    def test_is_face(self):
        for dimension in range(4):
            faces = [face for size in range(1, dimension + 2) for face in combinations(range(dimension + 1), size)]
            for face in faces:
                self.assertIs(is_face(dimension, face), True)
                self.assertIs(is_face(value=face, dimension=dimension), True)
            for wrong in junk() + [(), (dimension + 1,), (-1,), (0, 0), (1, 0), [0], (True,), (False,), (0, None)]:
                self.assertIs(is_face(dimension, wrong), False)

    def test_faces_of(self):
        self.assertEqual(faces_of(0, 0), ((0,),))
        self.assertEqual(faces_of(3, 2), ((0, 1, 2), (0, 1, 3), (0, 2, 3), (1, 2, 3), (0, 1, 2, 3)))
        for dimension in range(4):
            for least in range(dimension + 1):
                found = faces_of(dimension, least)
                self.assertEqual(faces_of(least=least, dimension=dimension), found)
                self.assertEqual(len(found), sum(len(list(combinations(range(dimension + 1), size))) for size in
                                                 range(least + 1, dimension + 2)))
                self.assertEqual(found, tuple(sorted(set(found), key=lambda face: (len(face), face))))
                self.assertTrue(all(is_face(dimension, face) and len(face) > least for face in found))


class Traces(unittest.TestCase):
    def check(self, chance, form, found, places):
        """Of arrows a led form tells what the form tells of the led arrows."""
        dimension = len(places) - 1
        self.assertTrue(is_form(found))
        self.assertEqual(found[:2], (dimension, form[1]))
        place = made_place(chance, dimension)
        arrows = [made_place(chance, dimension) for _ in range(form[1])]
        led = [led_arrow(places, arrow) for arrow in arrows]
        self.assertEqual(value_at(found, place, arrows), value_at(form, led_place(places, place), led))

    def test_what_it_tells_of_arrows(self):
        for dimension, sort in CELLS:
            chance = chances("trace", dimension, sort)
            for face in faces_of(dimension, sort):
                for _ in range(4):
                    form = made_form(chance, dimension, sort, 4)
                    found = trace(form, face)
                    self.assertEqual(trace(face=face, form=form), found)
                    self.check(chance, form, found, [corner(dimension, each) for each in face])

    def test_any_places(self):
        for dimension, sort in CELLS:
            for many in range(sort + 1, 5):
                chance = chances("places", dimension, sort, many)
                places = [made_place(chance, dimension) for _ in range(many)]
                form = made_form(chance, dimension, sort, 3)
                found = led_form(form, [tuple(as_pair(worth) for worth in place) for place in places])
                self.check(chance, form, found, places)

    def test_by_hand(self):
        turn = (2, 1, (((1,), (0, 1), (-1, 1)), ((2,), (1, 0), ONE)))
        self.assertEqual(trace(turn, (1, 2)), (1, 1, (((1,), (0,), ONE),)))
        self.assertEqual(trace(turn, (0, 1)), (1, 1, ()))
        self.assertEqual(trace(turn, (0, 1, 2)), turn)
        self.assertEqual(trace((2, 0, (((), (1, 0), ONE),)), (1,)), (0, 0, (((), (), ONE),)))

    def test_whole_cell_and_nought(self):
        for dimension, sort in CELLS:
            form = made_form(chances("whole", dimension, sort), dimension, sort, 5)
            self.assertEqual(trace(form, tuple(range(dimension + 1))), form)
            for face in faces_of(dimension, sort):
                self.assertEqual(trace((dimension, sort, ()), face), (len(face) - 1, sort, ()))

    def test_trace_of_a_trace(self):
        for dimension, sort in CELLS:
            form = made_form(chances("again", dimension, sort), dimension, sort, 4)
            for face in faces_of(dimension, sort):
                for part in faces_of(len(face) - 1, sort):
                    self.assertEqual(trace(trace(form, face), part), trace(form, tuple(face[at] for at in part)))

    def test_sums_products_and_rises(self):
        for dimension, sort in CELLS:
            chance = chances("traces of", dimension, sort)
            form, other = made_form(chance, dimension, sort, 3), made_form(chance, dimension, sort, 3)
            for face in faces_of(dimension, sort):
                self.assertEqual(trace(plus(form, other), face), plus(trace(form, face), trace(other, face)))
                for more_sort in range(len(face) - sort):
                    more = made_form(chance, dimension, more_sort, 3)
                    self.assertEqual(trace(product(form, more), face), product(trace(form, face), trace(more, face)))
                if sort < len(face) - 1:
                    self.assertEqual(trace(rise(form), face), rise(trace(form, face)))

    def test_high_degree_and_large_numbers(self):
        form = (3, 1, (((1,), (12, 0, 0), (10 ** 300, 7)), ((2,), (4, 4, 4), (-1, 10 ** 300))))
        chance = chances("high")
        for face in faces_of(3, 1):
            self.check(chance, form, trace(form, face), [corner(3, each) for each in face])


if __name__ == "__main__":
    unittest.main()
