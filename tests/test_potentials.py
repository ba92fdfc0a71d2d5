"""Potentials of closed joined held tuples, rounds that bar them, and how many closed ones and rises there are."""

import unittest
from fractions import Fraction

from cellrises.chains import border, holes, is_round, rounds_of
from cellrises.closed import is_closed
from cellrises.elements import told_element
from cellrises.joined import count_of, is_held, is_joined, numbers_of, rises, sum_along
from cellrises.potentials import barring_round, closed_count, potential, risen_count
from cellrises.spans import is_within
from tests.helpers import as_pair, both_ways, chances, number, rank_of_numbers
from tests.lands import (
    BAND, BOOK, BOTH, CROSS_CAP, HOLLOW, KNOWN, LINE, MANY, NECKLACE, RING, SHELL, SQUARE, as_chain, cocycles, faces_by_hand,
    holes_by_hand, kinds_for, made_joined, rank_of_tuples, some_lands, sum_by_hand, sum_of_tuples, unit_tuples, whitney,
)
from tests.weighing import BIG

ONE, LESS, NIL = (1, 1), (-1, 1), (0, 1)
STEP, TWICE = (1, 1, (((1,), (0,), ONE),)), (1, 1, (((1,), (0,), (2, 1)),))


def ahead(kind, degree, sort):
    """The kind ahead."""
    return ("trimmed", degree + 1 if kind == "whole" else degree, sort - 1)


def kinds_above_0(parting):
    """All told kinds of a land of a sort from 1 on."""
    return [told for told in kinds_for(parting) if told[2] > 0]


def made_closed(chance, parting, held, kind, degree, sort, height=4):
    """Some closed joined held tuple of a kind: from numbers that make 0 of borders, and a rise."""
    found = rises(parting, made_joined(chance, parting, *ahead(kind, degree, sort), held))
    row = {}
    for cycle in cocycles(parting, held, sort):
        factor = Fraction(chance.randint(-height, height), chance.randint(1, height))
        for face, worth in cycle.items():
            row[face] = row.get(face, 0) + factor * worth
    return sum_of_tuples(found, whitney(parting, sort, row))


class Potentials(unittest.TestCase):
    def check(self, parting, held, kind, degree, joined):
        """Just one is told: a potential, or a round that bars; each is held against what is asked of it."""
        found = both_ways(potential, parting, held, kind, degree, joined)
        barred = both_ways(barring_round, parting, held, kind, degree, joined)
        self.assertNotEqual(found is None, barred is None)
        sort = joined[0][1]
        if found is not None:
            name, own, less = ahead(kind, degree, sort)
            self.assertEqual([form[:2] for form in found], [(parting[0], less)] * len(parting[1]))
            span = told_element(name, parting[0], own, less)[0]
            self.assertTrue(all(is_within(span, form) for form in found))
            self.assertIs(is_joined(parting, found), True)
            self.assertIs(is_held(parting, held, found), True)
            self.assertEqual(rises(parting, found), joined)
        else:
            self.assertTrue(barred and all(len(face) == sort + 1 for face, _ in barred))
            self.assertIs(is_round(parting, held, barred), True)
            self.assertNotEqual(sum_by_hand(parting, joined, barred), 0)
        return found is not None

    def test_rises_have_a_potential(self):
        for chance, parting, held in some_lands("have", 3):
            for kind, degree, sort in chance.sample(kinds_above_0(parting), 3 if parting[0] > 1 else 2):
                joined = rises(parting, made_joined(chance, parting, *ahead(kind, degree, sort), held))
                self.assertIs(self.check(parting, held, kind, degree, joined), True)

    def test_all_kinds_on_partings_with_holes(self):
        seen = {True: 0, False: 0}
        for parting in (SQUARE, RING, BAND, HOLLOW, BOTH, NECKLACE):
            for kind, degree, sort in kinds_above_0(parting):
                chance = chances("all kinds", parting, kind, degree, sort)
                for held in ((), (parting[1][0][:1], parting[1][-1][-2:])):
                    joined = made_closed(chance, parting, held, kind, degree, sort)
                    seen[self.check(parting, held, kind, degree, joined)] += 1
        self.assertGreater(min(seen.values()), 20, seen)

    def test_just_if_the_sum_along_each_round_is_0(self):
        seen = {True: 0, False: 0}
        for chance, parting, held in some_lands("each round", 4):
            for kind, degree, sort in chance.sample(kinds_above_0(parting), 2 if parting[0] > 1 else 1):
                joined = made_closed(chance, parting, held, kind, degree, sort, 1)
                sums = [sum_by_hand(parting, joined, chain) for chain in rounds_of(parting, held, sort)]
                expected = not any(sums)
                seen[expected] += 1
                self.assertIs(self.check(parting, held, kind, degree, joined), expected)
        self.assertGreater(min(seen.values()), 10, seen)

    def test_sums_along_what_bounds_are_0(self):
        for chance, parting, held in some_lands("what bounds", 2):
            for kind, degree, sort in chance.sample(kinds_above_0(parting), 1):
                joined = made_closed(chance, parting, held, kind, degree, sort)
                for face in faces_by_hand(parting, sort + 1) if sort < parting[0] else ():
                    self.assertEqual(sum_along(parting, joined, border(parting, ((face, BIG),))), NIL)

    def test_any_numbers_for_rounds_without_bounding_sums_are_had(self):
        for _, parting, held in some_lands("are had", 6):
            for sort in range(1, parting[0] + 1):
                rounds, rows = rounds_of(parting, held, sort), []
                for cycle in cocycles(parting, held, sort):
                    joined = whitney(parting, sort, cycle)
                    self.assertTrue(all(is_closed(form) for form in joined) and is_held(parting, held, joined))
                    rows.append({at: number(sum_along(parting, joined, chain)) for at, chain in enumerate(rounds)})
                self.assertEqual(rank_of_numbers(rows), holes_by_hand(parting, held, sort))

    def test_nought(self):
        for parting, _ in KNOWN:
            for kind, degree, sort in kinds_above_0(parting):
                nought = ((parting[0], sort, ()),) * len(parting[1])
                self.assertIs(self.check(parting, parting[1], kind, degree, nought), True)
                self.assertIs(self.check(parting, (), kind, degree, nought), True)

    def test_numbers_alone_are_ahead_of_the_sort_1(self):
        for parting in (LINE, RING, SQUARE):
            for degree in (1, 2, 3):
                hat = ((parting[0], 0, (((), (0,) * parting[0], BIG),)),) * len(parting[1])
                self.assertEqual(rises(parting, hat), ((parting[0], 1, ()),) * len(parting[1]))
                self.assertIs(self.check(parting, (), "trimmed", degree, rises(parting, hat)), True)

    def test_of_the_degree_0(self):
        for parting in (LINE, RING, HOLLOW, SHELL, MANY, BOOK):
            chance, cells, top = chances("degree 0", parting), parting[1], parting[0]
            for held in ((), (cells[0][:-1],), tuple(faces_by_hand(parting, top - 1))):
                row = {cell: Fraction(chance.randint(-4, 4), chance.randint(1, 3)) for cell in cells}
                joined = whitney(parting, top, row)
                bars = any(sum_by_hand(parting, joined, chain) for chain in rounds_of(parting, held, top))
                self.assertIs(self.check(parting, held, "whole", 0, joined), not bars)

    def test_by_hand(self):
        self.assertIsNone(potential(RING, (), "whole", 0, (STEP, STEP, STEP)))
        self.assertIsNone(barring_round(RING, (), "whole", 0, (STEP, TWICE, STEP)))
        found = potential(RING, (), "whole", 0, (STEP, TWICE, STEP))
        base = number(numbers_of(RING, "trimmed", 1, found)[0])
        self.assertEqual([number(each) - base for each in numbers_of(RING, "trimmed", 1, found)], [0, 1, 2])
        ((face, _), *_) = barring_round(LINE, ((0,), (1,)), "trimmed", 1, (STEP,))
        self.assertEqual(face, (0, 1))
        self.assertEqual(potential(LINE, ((0,),), "trimmed", 1, (STEP,)), ((1, 0, (((), (1,), ONE),)),))
        self.assertEqual(potential(LINE, ((1,),), "trimmed", 1, (STEP,)), ((1, 0, (((), (0,), LESS), ((), (1,), ONE))),))

    def test_large_numbers(self):
        for parting, told in ((RING, ("whole", 3, 1)), (BAND, ("trimmed", 2, 1)), (NECKLACE, ("whole", 1, 1)), (HOLLOW, ("whole", 2, 2))):
            chance = chances("large", parting)
            joined = made_closed(chance, parting, (), *told)
            for factor in (BIG, (1, 10 ** 300)):
                big = sum_of_tuples(((parting[0], told[2], ()),) * len(joined), joined, factor)
                self.check(parting, (), *told[:2], big)
            row = {face: Fraction(chance.randint(1, 10 ** 300), chance.randint(1, 10 ** 300)) for face in faces_by_hand(parting, told[2] - 1)}
            risen = rises(parting, whitney(parting, told[2] - 1, row))
            self.assertIs(self.check(parting, (), *told[:2], risen), True)

    def test_a_round_twice_about_a_cross_cap_bounds(self):
        chance = chances("cap")
        for told in (("trimmed", 1, 1), ("whole", 1, 1), ("trimmed", 2, 2), ("whole", 0, 2)):
            self.assertIs(self.check(CROSS_CAP, (), *told[:2], made_closed(chance, CROSS_CAP, (), *told)), True)


class Counts(unittest.TestCase):
    def test_by_counts_alone(self):
        for _, parting, held in some_lands("counts", 8):
            for kind, degree, sort in kinds_for(parting):
                closed = both_ways(closed_count, parting, held, kind, degree, sort)
                risen = both_ways(risen_count, parting, held, kind, degree, sort)
                self.assertEqual(risen, count_of(parting, held, kind, degree, sort) - closed)
                if sort == 0:
                    self.assertEqual(closed, holes(parting, held, 0))
                name, own, less = ahead(kind, degree, sort)
                if sort > 0 and (name, own, less) in kinds_for(parting):
                    self.assertEqual(closed, holes(parting, held, sort) + risen_count(parting, held, name, own, less))
                if sort == parting[0]:
                    self.assertEqual(risen, 0)
                    self.assertEqual(closed, count_of(parting, held, kind, degree, sort))

    def test_by_ranks(self):
        for chance, parting, held in some_lands("ranks", 2):
            for kind, degree, sort in kinds_for(parting):
                many = count_of(parting, held, kind, degree, sort)
                if many <= 40 and len(parting[1]) <= 6 and sort < parting[0]:
                    units = unit_tuples(parting, held, kind, degree, sort)
                    self.assertEqual(len(units), many)
                    risen = rank_of_tuples([rises(parting, joined) for joined in units])
                    self.assertEqual(risen_count(parting, held, kind, degree, sort), risen)
                    self.assertEqual(closed_count(parting, held, kind, degree, sort), many - risen)

    def test_by_hand(self):
        self.assertEqual(closed_count(SQUARE, (), "trimmed", 1, 1), 3)
        self.assertEqual(closed_count(SQUARE, (), "whole", 1, 1), 8)
        self.assertEqual(closed_count(RING, (), "whole", 0, 1), 3)
        self.assertEqual(risen_count(SQUARE, (), "whole", 1, 0), 3)
        self.assertEqual(closed_count(LINE, ((0,),), "whole", 1, 0), 0)
        # Trimmed of the degree 3 has on five cells 5 + 10 * 2 + 10 places for the sort 0, 10 * 3 + 10 * 6 + 5 * 3 for 1.
        self.assertEqual([closed_count(SHELL, (), "whole", 2, sort) for sort in range(4)], [1, 35 - 1, 105 - 34, 50])
        self.assertEqual([risen_count(SHELL, (), "whole", 2, sort) for sort in (0, 3)], [14, 0])

    def test_sort_0_the_pieces_without_a_held_face(self):
        two = (2, ((0, 1, 2), (0, 5, 6), (7, 8, 9)))
        for held, many in (((), 2), (((6,),), 1), (((6,), (7, 8)), 0), ((two[1][2],), 1)):
            for degree in (1, 2, 3):
                self.assertEqual(closed_count(two, held, "whole", degree, 0), many)
                self.assertEqual(closed_count(two, held, "trimmed", degree, 0), many)

    def test_the_holes_are_the_same_whatever_the_degree_and_the_kind(self):
        for _, parting, held in some_lands("whatever", 2):
            for kind, degree, sort in kinds_above_0(parting):
                name, own, less = ahead(kind, degree, sort)
                if own <= (2 if parting[0] == 3 else 3):
                    risen = risen_count(parting, held, name, own, less)
                    self.assertEqual(closed_count(parting, held, kind, degree, sort) - risen, holes_by_hand(parting, held, sort))

    def test_all_held(self):
        for parting, _ in KNOWN:
            for kind, degree, sort in kinds_for(parting):
                self.assertEqual(closed_count(parting, parting[1], kind, degree, sort), 0)
                self.assertEqual(risen_count(parting, parting[1], kind, degree, sort), 0)


class Fractions(unittest.TestCase):
    def test_sums_of_closed_tuples_are_told_back_along_rounds(self):
        """Numbers told for the one round about a ring, a band and a necklace."""
        for parting, sort in ((RING, 1), (BAND, 1), (NECKLACE, 1), (HOLLOW, 2), (SHELL, 3)):
            turns = [chain for chain in rounds_of(parting, (), sort)]
            for told in (Fraction(1), Fraction(-7, 3), number(BIG)):
                cycle = next(each for each in cocycles(parting, (), sort)
                             if any(sum_by_hand(parting, whitney(parting, sort, each), chain) for chain in turns))
                turn = next(chain for chain in turns if sum_by_hand(parting, whitney(parting, sort, cycle), chain))
                share = told / sum_by_hand(parting, whitney(parting, sort, cycle), turn)
                joined = whitney(parting, sort, {face: worth * share for face, worth in cycle.items()})
                self.assertEqual(sum_along(parting, joined, turn), as_pair(told))
                barred = barring_round(parting, (), "trimmed", 1, joined)
                self.assertNotEqual(sum_along(parting, joined, barred), NIL)
                self.assertEqual(as_chain({face: number(fraction) for face, fraction in barred}), barred)


if __name__ == "__main__":
    unittest.main()
