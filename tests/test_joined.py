"""Joined tuples of cell forms: whether they are, their numbers at places, held ones, rises and sums along chains."""

import unittest
from fractions import Fraction
from itertools import product as all_of

from cellrises.chains import border
from cellrises.closed import is_closed
from cellrises.elements import told_element, told_tests
from cellrises.errors import NotOfKind
from cellrises.forms import degree_of, product, rise, times_number
from cellrises.joined import count_of, is_held, is_joined, joined_with, numbers_of, rises, sum_along
from cellrises.measures import measure
from cellrises.meetings import count_with, jumping_pair
from cellrises.partings import common_face, faces_in, is_parting
from cellrises.spans import is_within
from tests.helpers import as_pair, both_ways, chances, error_of, made_form, number, numbers_of_form, rank_of_numbers
from tests.lands import (
    BOOK, BOTH, FAN, KNOWN, LINE, RING, SHELL, SQUARE, all_faces, as_chain, big_joined, cell_of, faces_by_hand, held_by_hand,
    joined_by_hand, kinds_for, lot_by_hand, made_cell_forms, made_chain, made_held, made_joined, made_parting, made_worths,
    own_corners, places_by_hand, some_lands, sum_by_hand, sum_of_tuples, trace_there, tuple_by_hand,
)
from tests.weighing import BIG, LIGHT_TOLD, changed

ONE, LESS, NIL = (1, 1), (-1, 1), (0, 1)
STEP, TWICE = (1, 1, (((1,), (0,), ONE),)), (1, 1, (((1,), (0,), (2, 1)),))
ABOUT = (((0, 1), ONE), ((0, 2), LESS), ((1, 2), ONE))


def some_tuples(name, many=2):
    """Joined tuples of all told kinds on some partings, held beside some lot."""
    for chance, parting, held in some_lands(name, many):
        for kind, degree, sort in chance.sample(kinds_for(parting), 4):
            yield chance, parting, held, (kind, degree, sort), made_joined(chance, parting, kind, degree, sort, held)


class Joined(unittest.TestCase):
    def test_joined_ones(self):
        for _, parting, _, _, joined in some_tuples("joined"):
            self.assertTrue(joined_by_hand(parting, joined))
            self.assertIs(both_ways(is_joined, parting, joined), True)

    def test_one_or_two_cells_changed(self):
        seen = {True: 0, False: 0}
        for chance, parting, _, (kind, degree, sort), joined in some_tuples("changed"):
            for many in (1, 2):
                forms = list(joined)
                for index in chance.sample(range(len(forms)), min(many, len(forms))):
                    change = made_form(chance, parting[0], sort, 1, 1)
                    forms[index] = sum_of_tuples((forms[index],), (change,))[0]
                found = is_joined(parting, tuple(forms))
                self.assertIs(found, joined_by_hand(parting, forms))
                seen[found] += 1
        self.assertGreater(min(seen.values()), 20, seen)

    def test_any_cell_forms(self):
        seen = {True: 0, False: 0}
        for chance, parting, _ in some_lands("cell forms"):
            for sort in range(parting[0] + 1):
                for degree in (0, 2):
                    joined = made_cell_forms(chance, parting, sort, degree)
                    found = both_ways(is_joined, parting, joined)
                    self.assertIs(found, joined_by_hand(parting, joined))
                    seen[found] += 1
        self.assertGreater(min(seen.values()), 20, seen)

    def test_the_same_form_on_cells_whose_faces_are_led_alike(self):
        form = (2, 0, (((), (0, 3), BIG),))
        self.assertIs(is_joined((2, ((0, 1, 3), (0, 2, 3), (4, 5, 6))), (form, form, (2, 0, ()))), True)
        self.assertIs(is_joined((2, ((0, 1, 3), (1, 2, 3))), (form, form)), True)
        self.assertIs(is_joined(SQUARE, (form, form)), False)

    def test_cells_that_share_a_corner_an_edge_a_side_or_nothing(self):
        parting = (3, ((0, 1, 2, 3), (0, 1, 2, 4), (2, 3, 5, 6), (3, 7, 8, 9), (10, 11, 12, 13)))
        for sort, apart in ((0, (1, 2, 3)), (1, (1, 2)), (2, (1,)), (3, ())):
            nought = [(3, sort, ())] * 5
            for index in range(1, 5):
                form = (3, sort, tuple(sorted(((each, (0, 0, 0), ONE) for each in all_axes(sort)))))
                joined = tuple(nought[:index] + [form] + nought[index + 1:])
                self.assertIs(is_joined(parting, joined), joined_by_hand(parting, joined))
                self.assertEqual(is_joined(parting, joined), index not in apart, (sort, index))

    def test_of_the_sort_that_is_the_dimension_all_are(self):
        for chance, parting, _ in some_lands("highest"):
            self.assertIs(is_joined(parting, made_cell_forms(chance, parting, parting[0], 3)), True)

    def test_products_sums_and_multiples(self):
        for chance, parting, held, (kind, degree, sort), joined in some_tuples("products"):
            other = made_joined(chance, parting, kind, degree, sort, held)
            self.assertIs(is_joined(parting, sum_of_tuples(joined, other, (-3, 7))), True)
            self.assertIs(is_held(parting, held, sum_of_tuples(joined, other, (-3, 7))), True)
            for more_sort in range(parting[0] - sort + 1):
                more = made_joined(chance, parting, "trimmed", 1, more_sort)
                together = tuple(product(form, factor) for form, factor in zip(joined, more))
                self.assertIs(is_joined(parting, together), True)
                self.assertIs(is_held(parting, held, together), True)

    def test_by_hand(self):
        self.assertIs(is_joined(RING, (STEP, STEP, STEP)), True)
        hat = joined_with(SQUARE, "whole", 1, 0, (ONE, NIL, NIL, NIL))
        self.assertEqual([hat[0][2], hat[1][2]], [(((), (0, 0), ONE), ((), (0, 1), LESS), ((), (1, 0), LESS)), ()])
        self.assertIs(is_joined(SQUARE, hat), True)
        self.assertIs(is_joined(SQUARE, hat[::-1]), False)


def all_axes(sort):
    """All axes of a sort in the dimension 3."""
    return {0: [()], 1: [(1,), (2,), (3,)], 2: [(1, 2), (1, 3), (2, 3)], 3: [(1, 2, 3)]}[sort]


class Places(unittest.TestCase):
    def test_counts(self):
        for chance, parting, held in some_lands("count of", 8):
            lot = lot_by_hand(held)
            for kind, degree, sort in kinds_for(parting):
                places = places_by_hand(parting, kind, degree, sort)
                self.assertEqual(both_ways(count_of, parting, held, kind, degree, sort),
                                 sum(face not in lot for face, _ in places))
                self.assertEqual(count_of(parting, (), kind, degree, sort), len(places))
                self.assertEqual(count_of(parting, parting[1], kind, degree, sort), 0)

    def test_as_many_as_an_element_that_joins_tells(self):
        for _, parting, _ in some_lands("as many", 4):
            counts = tuple(len(faces_in(parting, own)) for own in range(parting[0] + 1))
            for kind, degree, sort in kinds_for(parting):
                element = told_element(kind, parting[0], degree, sort)
                self.assertEqual(count_of(parting, (), kind, degree, sort), count_with(element, counts))

    def test_as_many_as_free_joined_tuples_of_forms_of_the_span(self):
        for parting in (LINE, RING, SQUARE, BOTH, (2, ((0, 1, 2), (0, 1, 3), (0, 1, 4))), (2, ((0, 1, 2), (2, 3, 4)))):
            for kind, degree, sort in kinds_for(parting):
                element = told_element(kind, parting[0], degree, sort)
                if len(element[0]) * len(parting[1]) <= 36:
                    self.assertEqual(count_of(parting, (), kind, degree, sort), free_joined(parting, element))

    def test_by_hand(self):
        told = [("whole", 1, 0), ("trimmed", 1, 1), ("whole", 1, 1), ("trimmed", 2, 1), ("whole", 0, 2)]
        self.assertEqual([count_of(SQUARE, (), *kind) for kind in told], [4, 5, 10, 14, 2])
        self.assertEqual(count_of(SQUARE, ((0, 1),), "trimmed", 1, 1), 4)
        self.assertEqual(count_of(SQUARE, ((0, 1), (1,), (0, 1)), "trimmed", 1, 1), 4)
        self.assertEqual(count_of(SQUARE, ((0, 1),), "whole", 1, 0), 2)
        self.assertEqual(count_of(SHELL, (), "whole", 2, 0), 5 + 10)


def free_joined(parting, element):
    """How many free tuples of forms of a span have the same traces on common faces, by the rank of what must be 0."""
    forms, rows = element[0], []
    for index in range(len(parting[1])):
        for form in forms:
            row = {}
            for other, behind in enumerate(parting[1]):
                face = tuple(each for each in parting[1][index] if each in behind)
                if other != index and len(face) > form[1]:
                    tuple_of = {index: form}
                    led = trace_there(parting, tuple_of, index, face)
                    for pair, worth in numbers_of_form(led).items():
                        row[(min(index, other), max(index, other), *pair)] = worth * (1 if index < other else -1)
            rows.append(row)
    return len(rows) - rank_of_numbers(rows)


class Numbers(unittest.TestCase):
    def test_each_told_back_from_the_other(self):
        for chance, parting, held in some_lands("numbers"):
            for kind, degree, sort in chance.sample(kinds_for(parting), 5):
                worths = made_worths(chance, parting, kind, degree, sort, held)
                numbers = tuple(as_pair(worths[place]) for place in places_by_hand(parting, kind, degree, sort))
                joined = both_ways(joined_with, parting, kind, degree, sort, numbers)
                self.assertEqual(joined, tuple_by_hand(parting, kind, degree, sort, worths))
                self.assertIs(is_joined(parting, joined), True)
                self.assertEqual(both_ways(numbers_of, parting, kind, degree, joined), numbers)

    def test_they_are_the_measures_on_each_cell(self):
        for _, parting, _, (kind, degree, sort), joined in some_tuples("measures", 1):
            numbers = numbers_of(parting, kind, degree, joined)
            tests = told_tests(kind, parting[0], degree, sort)
            for (face, at), worth in zip(places_by_hand(parting, kind, degree, sort), numbers):
                for last in (True, False):
                    index = cell_of(parting, face, last)
                    weight = (own_corners(parting[1][index], face), tests[len(face) - 1][at])
                    self.assertEqual(measure(joined[index], weight), worth)

    def test_of_other_kinds(self):
        for chance, parting, _, (kind, degree, sort), joined in some_tuples("other kinds", 1):
            for other, own, _ in [each for each in kinds_for(parting) if each[2] == sort]:
                span = told_element(other, parting[0], own, sort)[0]
                outside = [index for index, form in enumerate(joined) if not is_within(span, form)]
                if outside:
                    self.assertEqual(error_of(numbers_of, parting, other, own, joined), (NotOfKind, {"index": outside[0]}))
                else:
                    numbers = numbers_of(parting, other, own, joined)
                    self.assertEqual(joined_with(parting, other, own, sort, numbers), joined)

    def test_noughts(self):
        for _, parting, _ in some_lands("noughts", 1):
            for kind, degree, sort in kinds_for(parting):
                many = count_of(parting, (), kind, degree, sort)
                nought = ((parting[0], sort, ()),) * len(parting[1])
                self.assertEqual(joined_with(parting, kind, degree, sort, (NIL,) * many), nought)
                self.assertEqual(numbers_of(parting, kind, degree, nought), (NIL,) * many)

    def test_by_hand(self):
        hat = joined_with(SQUARE, "whole", 1, 0, (ONE, NIL, NIL, NIL))
        self.assertEqual(numbers_of(SQUARE, "whole", 1, hat), (ONE, NIL, NIL, NIL))
        self.assertEqual(numbers_of(RING, "whole", 0, (STEP, TWICE, STEP)), (ONE, (2, 1), ONE))
        self.assertEqual(joined_with(RING, "trimmed", 1, 1, (ONE, (2, 1), ONE)), (STEP, TWICE, STEP))
        # Faces in order: the corner 3 of the square is the last of the lesser ones.
        self.assertEqual(numbers_of(SQUARE, "whole", 2, hat)[:4], (ONE, NIL, NIL, NIL))

    def test_large_numbers(self):
        chance = chances("large joined")
        for parting, told in ((SQUARE, ("whole", 2, 1)), (BOTH, ("trimmed", 2, 1)), (RING, ("whole", 3, 0)), (FAN, ("whole", 3, 2))):
            numbers = tuple(as_pair(Fraction(chance.randint(-10 ** 300, 10 ** 300), chance.randint(1, 10 ** 300)))
                            for _ in places_by_hand(parting, *told))
            joined = joined_with(parting, *told, numbers)
            self.assertIs(is_joined(parting, joined), True)
            self.assertEqual(numbers_of(parting, *told[:2], joined), numbers)


class Held(unittest.TestCase):
    def test_just_with_0_at_held_places(self):
        seen = {True: 0, False: 0}
        for chance, parting, held in some_lands("held"):
            lot = lot_by_hand(held)
            for kind, degree, sort in chance.sample(kinds_for(parting), 4):
                for own in (held, (), held[:1]):
                    worths = made_worths(chance, parting, kind, degree, sort, own)
                    joined = tuple_by_hand(parting, kind, degree, sort, worths)
                    found = both_ways(is_held, parting, held, joined)
                    self.assertIs(found, held_by_hand(parting, held, joined))
                    self.assertIs(found, all(worth == 0 for (face, _), worth in worths.items() if face in lot))
                    seen[found] += 1
        self.assertGreater(min(seen.values()), 20, seen)

    def test_one_place_alone(self):
        for parting, told in ((SQUARE, ("whole", 2, 0)), (SQUARE, ("whole", 1, 1)), (BOTH, ("trimmed", 2, 1)), (RING, ("whole", 2, 0))):
            for place in places_by_hand(parting, *told):
                joined = tuple_by_hand(parting, *told, {place: Fraction(1)})
                for face in all_faces(parting):
                    self.assertIs(is_held(parting, (face,), joined), not set(place[0]) <= set(face))

    def test_faces_below_the_sort_ask_nothing(self):
        for chance, parting, _ in some_lands("below"):
            for sort in range(1, parting[0] + 1):
                joined = made_joined(chance, parting, "trimmed", 1, sort)
                faces = tuple(face for face in all_faces(parting) if len(face) <= sort)
                self.assertIs(is_held(parting, faces, joined), True)
                self.assertIs(is_held(parting, (), joined), True)

    def test_all_cells(self):
        for chance, parting, _ in some_lands("all cells"):
            for sort in range(parting[0] + 1):
                nought = ((parting[0], sort, ()),) * len(parting[1])
                self.assertIs(is_held(parting, parting[1], nought), True)
                joined = made_joined(chance, parting, "trimmed", 1, sort)
                self.assertIs(is_held(parting, parting[1], joined), joined == nought)


class Rises(unittest.TestCase):
    def test_cell_by_cell_joined_closed_and_held(self):
        for _, parting, held, (_, _, sort), joined in some_tuples("rises"):
            if sort < parting[0]:
                found = both_ways(rises, parting, joined)
                self.assertEqual(found, tuple(rise(form) for form in joined))
                self.assertIs(is_joined(parting, found), True)
                self.assertIs(is_held(parting, held, found), True)
                self.assertTrue(all(is_closed(form) for form in found))

    def test_by_hand(self):
        hat = joined_with(RING, "whole", 1, 0, (NIL, ONE, NIL))
        self.assertEqual(rises(RING, hat), (STEP, (1, 1, ()), times_number(STEP, LESS)))


class Sums(unittest.TestCase):
    def test_face_by_face(self):
        for chance, parting, _, (_, _, sort), joined in some_tuples("sum along"):
            for many in (0, 1, 5):
                chain = made_chain(chance, parting, sort, many)
                self.assertEqual(number(both_ways(sum_along, parting, joined, chain)), sum_by_hand(parting, joined, chain))

    def test_along_borders(self):
        for chance, parting, _, (_, _, sort), joined in some_tuples("along borders", 4):
            if sort < parting[0]:
                chain = made_chain(chance, parting, sort + 1, 6)
                self.assertEqual(sum_along(parting, rises(parting, joined), chain), sum_along(parting, joined, border(parting, chain)))

    def test_sums_of_chains_and_of_tuples(self):
        for chance, parting, held, (kind, degree, sort), joined in some_tuples("sums of"):
            other = made_joined(chance, parting, kind, degree, sort, held)
            faces = faces_by_hand(parting, sort)
            chain = as_chain({face: Fraction(chance.randint(-3, 3), 2) for face in faces})
            own, more = number(sum_along(parting, joined, chain)), number(sum_along(parting, other, chain))
            self.assertEqual(number(sum_along(parting, sum_of_tuples(joined, other, (-3, 7)), chain)), own - Fraction(3, 7) * more)
            single = sum(number(fraction) * number(sum_along(parting, joined, ((face, ONE),))) for face, fraction in chain)
            self.assertEqual(own, single)

    def test_along_held_faces(self):
        for _, parting, held, (_, _, sort), joined in some_tuples("along held"):
            faces = sorted(face for face in lot_by_hand(held) if len(face) == sort + 1)
            self.assertEqual(sum_along(parting, joined, as_chain({face: Fraction(at + 1) for at, face in enumerate(faces)})), NIL)

    def test_by_hand(self):
        self.assertEqual(sum_along(RING, (STEP, STEP, STEP), ABOUT), ONE)
        self.assertEqual(sum_along(RING, (STEP, TWICE, STEP), ABOUT), NIL)
        hat = joined_with(SQUARE, "whole", 1, 0, (ONE, (2, 1), NIL, (1, 3)))
        self.assertEqual(sum_along(SQUARE, hat, (((0,), (5, 1)), ((3,), (-1, 2)))), (29, 6))
        self.assertEqual(sum_along(SQUARE, hat, ()), NIL)
        volume = (2, 2, (((1, 2), (0, 0), ONE),))
        self.assertEqual(sum_along(SQUARE, (volume, volume), (((0, 1, 2), (2, 1)), ((1, 2, 3), (2, 3)))), (4, 3))

    def test_high_degrees_and_large_numbers(self):
        form = (1, 1, (((1,), (12,), BIG),))
        self.assertEqual(number(sum_along(RING, (form, form, form), ABOUT)), number(BIG) / 13)
        chance = chances("large sums")
        joined = big_joined(chance, SQUARE, "trimmed", 2, 1)
        chain = as_chain({face: number(BIG) + at for at, face in enumerate(faces_by_hand(SQUARE, 1))})
        self.assertEqual(number(sum_along(SQUARE, joined, chain)), sum_by_hand(SQUARE, joined, chain))


class Jumping(unittest.TestCase):
    def stands(self, face, other, dimension):
        """A parting of two cells with one common face: that of the first one's corners, and of the second one's."""
        common = [100 * (at + 1) for at in range(len(face))]
        cells = []
        for shift, own in ((1, face), (2, other)):
            numbers, at = [], 0
            for corner in range(dimension + 1):
                if corner in own:
                    numbers.append(common[at])
                    at += 1
                else:
                    numbers.append(100 * at + 10 * shift + corner)
            cells.append(tuple(numbers))
        return cells, common

    def test_a_jumping_pair_stands_on_two_cells_and_jumps(self):
        many = 0
        for told in LIGHT_TOLD:
            element = told_element(*told)
            for own in range(told[3], told[1]):
                without = changed(element, own, element[1][own][1:])
                pair = jumping_pair(without)
                if pair is not None:
                    many += 1
                    face, other, first, second = pair
                    (cell, behind), common = self.stands(face, other, told[1])
                    parting = (told[1], tuple(sorted((cell, behind))))
                    self.assertTrue(is_parting(parting))
                    joined = (first, second) if cell < behind else (second, first)
                    self.assertEqual(common_face(parting, 0, 1), tuple(common))
                    self.assertIs(is_joined(parting, joined), False)
                    for part, test in [(part, test) for part in all_faces((len(face) - 1, (tuple(common),)))
                                       for test in without[1][len(part) - 1]]:
                        own_parts = [tuple(each.index(corner) for corner in part) for each in (cell, behind)]
                        self.assertEqual(measure(first, (own_parts[0], test)), measure(second, (own_parts[1], test)))
        self.assertGreater(many, 20)

    def test_told_elements_never_do(self):
        for told in LIGHT_TOLD:
            element, chance = told_element(*told), chances("never", told)
            if told[2] > (2 if told[1] == 3 else 3):
                continue
            parting = made_parting(chance, told[1])
            joined = made_joined(chance, parting, *told[:1], *told[2:])
            self.assertTrue(all(is_within(element[0], form) for form in joined))
            self.assertTrue(all(degree_of(form) is None or degree_of(form) <= told[2] for form in joined))
            self.assertIs(is_joined(parting, joined), True)


class ManyCells(unittest.TestCase):
    def test_twelve_cells_and_one(self):
        chance = chances("twelve")
        for parting in (BOOK, (2, tuple((0, at, at + 1) for at in range(1, 13))), (1, ((0, 999),)), (3, ((996, 997, 998, 999),))):
            for kind, degree, sort in kinds_for(parting):
                held = made_held(chance, parting)
                joined = made_joined(chance, parting, kind, degree, sort, held)
                self.assertIs(is_joined(parting, joined), True)
                self.assertIs(is_held(parting, held, joined), True)
                numbers = numbers_of(parting, kind, degree, joined)
                self.assertEqual(joined_with(parting, kind, degree, sort, numbers), joined)

    def test_more_than_two_cells_a_side(self):
        for first, second in all_of(range(3), repeat=2):
            form, other = (2, 0, (((), (1, 0), ONE),)), (2, 0, (((), (0, 1), ONE),))
            joined = [form, form, form]
            joined[first] = times_number(form, (second + 1, 1))
            self.assertIs(is_joined((2, ((0, 1, 2), (0, 1, 3), (0, 1, 4))), tuple(joined)), second == 0)
            self.assertIs(is_joined((2, ((0, 1, 2), (0, 1, 3), (0, 1, 4))), (other, other, times_number(other, (5, 1)))), True)

    def test_known_partings(self):
        for parting, _ in KNOWN:
            joined = ((parting[0], 0, (((), (0,) * parting[0], BIG),)),) * len(parting[1])
            self.assertIs(is_joined(parting, joined), True)
            self.assertEqual(numbers_of(parting, "whole", 1, joined), (BIG,) * len(faces_in(parting, 0)))


if __name__ == "__main__":
    unittest.main()
