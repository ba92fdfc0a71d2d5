"""Partings: what they are, their faces in order, and what two cells share."""

import unittest
from itertools import combinations

from cellrises.led import faces_of
from cellrises.errors import InvalidDimension, InvalidIndex, InvalidParting
from cellrises.partings import common_face, faces_in, is_parting
from tests.helpers import Refusals, both_ways, junk
from tests.lands import BOTH, LINE, MANY, RING, SQUARE, partings, wrong_partings


class IsParting(unittest.TestCase):
    def test_partings(self):
        for parting in partings():
            self.assertIs(both_ways(is_parting, parting), True)

    def test_no_partings(self):
        for wrong in wrong_partings():
            with self.subTest(wrong=wrong):
                self.assertIs(is_parting(wrong), False)

    def test_each_pair_out_of_order(self):
        for parting in partings():
            dimension, cells = parting
            for at in range(len(cells) - 1):
                turned = list(cells)
                turned[at], turned[at + 1] = turned[at + 1], turned[at]
                self.assertIs(is_parting((dimension, tuple(turned))), False)
                self.assertIs(is_parting((dimension, (*cells[:at + 1], *cells[at:]))), False)

    def test_up_to_12_cells(self):
        for many in range(1, 13):
            self.assertIs(is_parting((1, MANY[1][:many])), True)
        self.assertIs(is_parting((1, (*MANY[1], (0, 13)))), False)


class Faces(unittest.TestCase):
    def test_those_that_lie_in_one_cell_in_order(self):
        for parting in partings():
            for dimension in range(parting[0] + 1):
                found = both_ways(faces_in, parting, dimension)
                self.assertIs(type(found), tuple)
                self.assertEqual(list(found), sorted(set(found)))
                lots = {face for cell in parting[1] for face in combinations(cell, dimension + 1)}
                self.assertEqual(set(found), lots)

    def test_the_highest_ones_are_the_cells(self):
        for parting in partings():
            self.assertEqual(faces_in(parting, parting[0]), parting[1])

    def test_by_hand(self):
        self.assertEqual(faces_in(SQUARE, 0), ((0,), (1,), (2,), (3,)))
        self.assertEqual(faces_in(SQUARE, 1), ((0, 1), (0, 2), (1, 2), (1, 3), (2, 3)))
        self.assertEqual(faces_in(BOTH, 2), ((0, 1, 2), (0, 1, 3), (0, 1, 4), (0, 2, 3), (0, 2, 4), (1, 2, 3), (1, 2, 4)))
        self.assertEqual(faces_in((1, ((3, 900), (4, 5))), 0), ((3,), (4,), (5,), (900,)))
        self.assertEqual(faces_in(RING, 1), RING[1])

    def test_the_same_places_of_each_cell_that_has_it(self):
        for parting in partings():
            for dimension in range(parting[0] + 1):
                for face in faces_in(parting, dimension):
                    for cell in parting[1]:
                        if set(face) <= set(cell):
                            places = tuple(cell.index(corner) for corner in face)
                            self.assertIn(places, faces_of(parting[0], dimension))


class CommonFace(unittest.TestCase):
    def test_all_common_corners(self):
        for parting in partings():
            for index, cell in enumerate(parting[1]):
                for other, behind in enumerate(parting[1]):
                    found = both_ways(common_face, parting, index, other)
                    self.assertIs(type(found), tuple)
                    self.assertEqual(found, tuple(sorted(set(cell) & set(behind))))
                    self.assertEqual(found, common_face(parting, other, index))
                    self.assertTrue(found == () or found in faces_in(parting, len(found) - 1))

    def test_a_corner_an_edge_a_side_nothing_and_the_cell(self):
        parting = (3, ((0, 1, 2, 3), (0, 1, 2, 4), (2, 3, 5, 6), (3, 7, 8, 9), (10, 11, 12, 13)))
        self.assertEqual([common_face(parting, 0, other) for other in range(5)],
                         [(0, 1, 2, 3), (0, 1, 2), (2, 3), (3,), ()])
        self.assertEqual(common_face(LINE, 0, 0), (0, 1))
        self.assertEqual(common_face(MANY, 3, 11), (0,))


class Wrong(Refusals):
    def test_parting(self):
        for wrong in wrong_partings():
            self.refuses(InvalidParting, {"given": wrong}, faces_in, wrong, 0)
            self.refuses(InvalidParting, {"given": wrong}, faces_in, wrong, None)
            self.refuses(InvalidParting, {"given": wrong}, common_face, wrong, 0, 0)
            self.refuses(InvalidParting, {"given": wrong}, common_face, wrong, 99, True)

    def test_dimension(self):
        for parting in (LINE, RING, SQUARE, BOTH):
            for wrong in junk() + ["0", (0,), [0], -2, parting[0] + 1, 4]:
                self.refuses(InvalidDimension, {"given": wrong}, faces_in, parting, wrong)
        self.refuses(InvalidDimension, {"given": 2}, faces_in, LINE, 2)
        self.refuses(InvalidDimension, {"given": 3}, faces_in, SQUARE, 3)

    def test_index_and_other(self):
        for parting in (LINE, RING, SQUARE, BOTH, MANY):
            many = len(parting[1])
            for wrong in [each for each in junk() if type(each) is not int] + ["0", (0,), [0], -1, -many, many, 12, 10 ** 399]:
                self.refuses(InvalidIndex, {"given": wrong}, common_face, parting, wrong, 0)
                self.refuses(InvalidIndex, {"given": wrong}, common_face, parting, wrong, None)
                self.refuses(InvalidIndex, {"given": wrong}, common_face, parting, 0, wrong)
                self.refuses(InvalidIndex, {"given": wrong}, common_face, parting, many - 1, wrong)


if __name__ == "__main__":
    unittest.main()
