"""Chains of partings: borders, rounds, holes, what bounds, and weights against what does not."""

import unittest
from fractions import Fraction

from cellrises.chains import border, bounding, holes, is_round, rounds_of, weights_against
from cellrises.partings import faces_in
from tests.helpers import as_pair, both_ways, chances, number, rank_of_numbers
from tests.lands import (
    BAND, BOOK, CROSS_CAP, HOLLOW, KNOWN, LINE, MANY, NECKLACE, RING, SHELL, SQUARE, all_faces, as_chain, as_row,
    border_by_hand, borders_by_hand, faces_by_hand, free_row, holes_by_hand, lot_by_hand, made_chain, made_held, some_lands,
)
from tests.weighing import BIG

ONE, LESS, HALF = (1, 1), (-1, 1), (1, 2)
ABOUT = (((0, 1), ONE), ((0, 2), LESS), ((1, 2), ONE))


def is_held_chain(chain, lot):
    """Whether all faces of a chain are held."""
    return all(face in lot for face, _ in chain)


def bounds_by_hand(parting, held, chain):
    """Whether a chain is in the span of borders and held faces, by ranks."""
    lot = lot_by_hand(held)
    row = free_row(as_row(chain), lot)
    if not row:
        return True
    size = len(chain[0][0])
    rows = borders_by_hand(parting, lot, size) if size <= parting[0] else []
    return rank_of_numbers(rows + [row]) == rank_of_numbers(rows)


class Borders(unittest.TestCase):
    def test_face_by_face(self):
        for chance, parting, _ in some_lands("borders"):
            for dimension in range(parting[0] + 1):
                for face in faces_by_hand(parting, dimension):
                    found = both_ways(border, parting, ((face, (-3, 2)),))
                    if dimension == 0:
                        self.assertEqual(found, ())
                    else:
                        sides = {face[:at] + face[at + 1:]: (-3 * (-1) ** at, 2) for at in range(len(face))}
                        self.assertEqual(found, tuple(sorted(sides.items())))
                chain = made_chain(chance, parting, dimension)
                self.assertEqual(both_ways(border, parting, chain), as_chain(border_by_hand(as_row(chain))))

    def test_the_border_of_a_border_is_nought(self):
        for chance, parting, _ in some_lands("twice"):
            for dimension in range(parting[0] + 1):
                chain = made_chain(chance, parting, dimension, 9)
                self.assertEqual(border(parting, border(parting, chain)), ())

    def test_sums(self):
        for chance, parting, _ in some_lands("sums"):
            for dimension in range(1, parting[0] + 1):
                first, second = (as_row(made_chain(chance, parting, dimension)) for _ in range(2))
                total = {face: first.get(face, 0) - Fraction(1, 7) * second.get(face, 0) for face in {**first, **second}}
                own, more = (as_row(border(parting, as_chain(row))) for row in (first, second))
                expected = {face: own.get(face, 0) - Fraction(1, 7) * more.get(face, 0) for face in {**own, **more}}
                self.assertEqual(border(parting, as_chain(total)), as_chain(expected))

    def test_nought(self):
        for parting, _ in KNOWN:
            self.assertEqual(border(parting, ()), ())

    def test_by_hand(self):
        self.assertEqual(border(SQUARE, (((0, 1, 2), ONE),)), ABOUT)
        self.assertEqual(border(RING, ABOUT), ())
        self.assertEqual(border(SQUARE, (((0, 1, 2), ONE), ((1, 2, 3), LESS))),
                         (((0, 1), ONE), ((0, 2), LESS), ((1, 3), ONE), ((2, 3), LESS)))
        self.assertEqual(border(LINE, (((0, 1), BIG),)), (((0,), (-BIG[0], BIG[1])), ((1,), BIG)))


class Rounds(unittest.TestCase):
    def test_just_if_the_border_is_held(self):
        seen = {True: 0, False: 0}
        for chance, parting, held in some_lands("is round"):
            lot = lot_by_hand(held)
            for dimension in range(parting[0] + 1):
                for many in (1, 2, 9):
                    chain = made_chain(chance, parting, dimension, many)
                    found = both_ways(is_round, parting, held, chain)
                    self.assertIs(found, dimension == 0 or not free_row(border_by_hand(as_row(chain)), lot))
                    seen[found] += 1
        self.assertGreater(min(seen.values()), 50)

    def test_borders_and_held_chains_are_rounds(self):
        for chance, parting, held in some_lands("are rounds"):
            lot = lot_by_hand(held)
            for dimension in range(parting[0] + 1):
                self.assertIs(is_round(parting, held, border(parting, made_chain(chance, parting, dimension))), True)
                faces = [face for face in lot if len(face) == dimension + 1]
                chain = as_chain({face: Fraction(chance.randint(1, 5), 3) for face in faces})
                self.assertIs(is_round(parting, held, chain), True)
            self.assertIs(is_round(parting, held, ()), True)

    def test_base_in_stairs(self):
        for chance, parting, held in some_lands("base"):
            lot = lot_by_hand(held)
            for dimension in range(parting[0] + 1):
                found = both_ways(rounds_of, parting, held, dimension)
                self.assertIs(type(found), tuple)
                for chain in found:
                    self.assertIs(is_round(parting, held, chain), True)
                    self.assertEqual(chain[0][1], ONE)
                    self.assertEqual([face for face, _ in chain], sorted({face for face, _ in chain}))
                firsts = [chain[0][0] for chain in found]
                self.assertEqual(firsts, sorted(set(firsts)))
                self.assertFalse(any(face in firsts for chain in found for face, _ in chain[1:]))
                rows = borders_by_hand(parting, lot, dimension)
                self.assertEqual(len(found), len(rows) - rank_of_numbers(rows))

    def test_held_chains_count(self):
        self.assertEqual(rounds_of(LINE, ((0,), (1,)), 1), ((((0, 1), ONE),),))
        self.assertEqual(rounds_of(LINE, ((0, 1),), 1), ((((0, 1), ONE),),))
        self.assertEqual(rounds_of(LINE, ((0,),), 1), ())
        self.assertEqual(rounds_of(LINE, ((0, 1),), 0), ((((0,), ONE),), (((1,), ONE),)))
        for parting, _ in KNOWN:
            for dimension in range(parting[0] + 1):
                faces = faces_in(parting, dimension)
                self.assertEqual(rounds_of(parting, parting[1], dimension), tuple(((face, ONE),) for face in faces))

    def test_by_hand(self):
        self.assertEqual(rounds_of(RING, (), 1), (ABOUT,))
        self.assertEqual(rounds_of(SQUARE, (), 1), (
            (((0, 1), ONE), ((0, 2), LESS), ((1, 3), ONE), ((2, 3), LESS)), (((1, 2), ONE), ((1, 3), LESS), ((2, 3), ONE))))
        self.assertEqual(rounds_of(SQUARE, (), 2), ())
        self.assertEqual(rounds_of(HOLLOW, (), 2), (
            (((0, 1, 2), ONE), ((0, 1, 3), LESS), ((0, 2, 3), ONE), ((1, 2, 3), LESS)),))


class Holes(unittest.TestCase):
    def test_known_ones(self):
        for parting, known in KNOWN:
            with self.subTest(parting=parting):
                self.assertEqual(tuple(holes(parting, (), dimension) for dimension in range(parting[0] + 1)), known)

    def test_by_ranks(self):
        for _, parting, held in some_lands("holes", 12):
            for dimension in range(parting[0] + 1):
                self.assertEqual(both_ways(holes, parting, held, dimension), holes_by_hand(parting, held, dimension))

    def test_rounds_less_those_that_bound(self):
        for _, parting, held in some_lands("less", 4):
            lot = lot_by_hand(held)
            for dimension in range(parting[0] + 1):
                rounds = rounds_of(parting, held, dimension)
                bound = [{face: Fraction(1)} for face in faces_by_hand(parting, dimension) if face in lot]
                if dimension < parting[0]:
                    bound += [border_by_hand({face: Fraction(1)}) for face in faces_by_hand(parting, dimension + 1)]
                self.assertEqual(holes(parting, held, dimension), len(rounds) - rank_of_numbers(bound))

    def test_their_sum_with_signs_is_that_of_the_faces_that_are_not_held(self):
        for _, parting, held in some_lands("euler", 12):
            lot = lot_by_hand(held)
            signed = sum((-1) ** (len(face) - 1) for face in all_faces(parting) if face not in lot)
            self.assertEqual(sum((-1) ** own * holes(parting, held, own) for own in range(parting[0] + 1)), signed)

    def test_pieces_without_a_held_face(self):
        two = (2, ((0, 1, 2), (0, 5, 6), (7, 8, 9)))
        for held, many in (((), 2), (((6,),), 1), (((6,), (7, 8)), 0), (((7, 8, 9),), 1), (((0,), (2,)), 1)):
            self.assertEqual(holes(two, held, 0), many)

    def test_held_lots(self):
        self.assertEqual([holes(LINE, ((0,), (1,)), own) for own in (0, 1)], [0, 1])
        self.assertEqual([holes(LINE, ((1,),), own) for own in (0, 1)], [0, 0])
        self.assertEqual([holes(SQUARE, ((0, 1), (2, 3)), own) for own in (0, 1, 2)], [0, 1, 0])
        rim = ((0, 1), (0, 2), (1, 3), (2, 3))
        self.assertEqual([holes(SQUARE, rim, own) for own in (0, 1, 2)], [0, 0, 1])
        self.assertEqual([holes(SQUARE, rim * 7, own) for own in (0, 1, 2)], [0, 0, 1])
        for parting, _ in KNOWN:
            self.assertEqual([holes(parting, parting[1], own) for own in range(parting[0] + 1)], [0] * (parting[0] + 1))


class Bounding(unittest.TestCase):
    def check(self, parting, held, chain):
        """Just one is told: a chain that it bounds, or weights against it; each is held against what is asked of it."""
        lot = lot_by_hand(held)
        bounded, weights = both_ways(bounding, parting, held, chain), both_ways(weights_against, parting, held, chain)
        self.assertEqual(bounded is None, not bounds_by_hand(parting, held, chain))
        self.assertEqual(weights is None, bounded is not None)
        if is_held_chain(chain, lot):
            self.assertEqual(bounded, ())
        elif bounded is not None:
            self.assertTrue(all(len(face) == len(chain[0][0]) + 1 for face, _ in bounded))
            left, own = border_by_hand(as_row(bounded)), as_row(chain)
            rest = {face: left.get(face, 0) - own.get(face, 0) for face in {**left, **own}}
            self.assertEqual(free_row(rest, lot), {})
            self.assertIs(is_round(parting, held, chain), True)
            self.assertEqual(border(parting, bounded), as_chain(left))
        else:
            self.assertTrue(weights)
            self.assertTrue(all(len(face) == len(chain[0][0]) and face not in lot for face, _ in weights))
            self.assertEqual(weights, as_chain(as_row(weights)))
            row = as_row(weights)
            self.assertNotEqual(sum(worth * row.get(face, 0) for face, worth in as_row(chain).items()), 0)
            if len(chain[0][0]) <= parting[0]:
                for other in borders_by_hand(parting, lot, len(chain[0][0])):
                    self.assertEqual(sum(worth * row.get(face, 0) for face, worth in other.items()), 0)
        return bounded is not None

    def test_any_chains(self):
        seen = {True: 0, False: 0}
        for chance, parting, held in some_lands("bounding"):
            for dimension in range(parting[0] + 1):
                for many in (1, 3, 9):
                    seen[self.check(parting, held, made_chain(chance, parting, dimension, many))] += 1
        self.assertGreater(min(seen.values()), 50, seen)

    def test_rounds(self):
        for chance, parting, held in some_lands("bounding rounds", 3):
            for dimension in range(parting[0] + 1):
                rounds = rounds_of(parting, held, dimension)
                barred = sum(not self.check(parting, held, chain) for chain in rounds[:8])
                self.assertTrue(barred == 0 or holes(parting, held, dimension) > 0)
                if len(rounds) <= 8:
                    self.assertTrue(barred >= min(1, holes(parting, held, dimension)))

    def test_borders_with_held_chains(self):
        for chance, parting, held in some_lands("with held"):
            lot = lot_by_hand(held)
            for dimension in range(1, parting[0] + 1):
                row = border_by_hand(as_row(made_chain(chance, parting, dimension, 9)))
                for face in lot:
                    if len(face) == dimension:
                        row[face] = row.get(face, 0) + Fraction(chance.randint(-3, 3), 2)
                self.assertTrue(self.check(parting, held, as_chain(row)))

    def test_what_is_no_round_does_not_bound(self):
        for chain in ((((0, 1), ONE),), (((0, 1), ONE), ((0, 2), ONE)), (((0, 1, 2), HALF),)):
            self.assertIs(is_round(SQUARE, (), chain), False)
            self.assertIs(self.check(SQUARE, (), chain), False)

    def test_of_the_highest_dimension(self):
        for parting in (LINE, HOLLOW, SHELL):
            for chain in rounds_of(parting, (), parting[0]):
                self.assertIs(self.check(parting, (), chain), False)
            self.assertIs(self.check(parting, parting[1], ((parting[1][0], HALF),)), True)

    def test_nought(self):
        for parting, _ in KNOWN:
            for held in ((), parting[1], (parting[1][0][:1],)):
                self.assertEqual(bounding(parting, held, ()), ())
                self.assertIsNone(weights_against(parting, held, ()))

    def test_by_hand(self):
        self.assertEqual(bounding(SQUARE, (), ABOUT), (((0, 1, 2), ONE),))
        self.assertIsNone(bounding(RING, (), ABOUT))
        self.assertEqual(bounding(LINE, (), (((0,), LESS), ((1,), ONE))), (((0, 1), ONE),))
        self.assertIsNone(bounding(LINE, (), (((0,), ONE),)))
        self.assertEqual(bounding(LINE, ((1,),), (((0,), (-3, 7)),)), (((0, 1), (3, 7)),))
        (face, worth), other = weights_against(LINE, (), (((0,), ONE),))
        self.assertEqual((face, other), ((0,), ((1,), worth)))

    def test_twice_a_round_that_does_not_bound_in_whole_numbers(self):
        turn = (((0, 1), ONE), ((0, 4), LESS), ((1, 4), ONE))
        self.assertIs(self.check(CROSS_CAP, (), turn), True)
        self.assertTrue(any(fraction[1] == 2 for _, fraction in bounding(CROSS_CAP, (), turn)))

    def test_about_a_band_and_a_necklace(self):
        self.assertIs(self.check(BAND, (), (((0, 1), ONE), ((0, 4), LESS), ((1, 2), ONE), ((2, 3), ONE), ((3, 4), ONE))), False)
        self.assertIs(self.check(NECKLACE, (), (((0, 2), ONE), ((0, 4), LESS), ((2, 4), ONE))), False)
        self.assertIs(self.check(NECKLACE, ((2, 3, 4, 5), (0, 1)), (((0, 2), ONE), ((0, 4), LESS), ((2, 4), ONE))), False)
        self.assertIs(self.check(NECKLACE, (), (((0, 1), ONE), ((0, 2), LESS), ((1, 2), ONE))), True)

    def test_large_numbers(self):
        chance = chances("large")
        for parting in (SQUARE, CROSS_CAP, BOOK, MANY):
            for dimension in range(parting[0] + 1):
                chain = as_chain({face: Fraction(chance.randint(1, 10 ** 300), chance.randint(1, 10 ** 300))
                                  for face in chance.sample(faces_by_hand(parting, dimension), min(5, len(parting[1]), 5 - dimension))})
                self.check(parting, made_held(chance, parting), chain)
                self.assertEqual(border(parting, chain), as_chain(border_by_hand(as_row(chain))))
                self.check(parting, (), border(parting, chain))

    def test_multiples(self):
        for factor in (BIG, (1, 10 ** 300), (-(10 ** 299), 7)):
            chain = tuple((face, as_pair(number(fraction) * number(factor))) for face, fraction in ABOUT)
            self.assertEqual(bounding(SQUARE, (), chain), (((0, 1, 2), factor),))
            self.assertIs(self.check(RING, (), chain), False)


if __name__ == "__main__":
    unittest.main()
