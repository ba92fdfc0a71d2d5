"""Wrong arguments of chains.py, joined.py and potentials.py: which error, what it keeps, and which one comes first."""

import unittest

from cellrises.chains import border, bounding, holes, is_round, rounds_of, weights_against
from cellrises.errors import (
    InvalidChain, InvalidDegree, InvalidDimension, InvalidHeld, InvalidJoined, InvalidKind, InvalidNumbers, InvalidParting,
    InvalidSort, NotClosed, NotHeld, NotJoined, NotOfKind,
)
from cellrises.joined import count_of, is_held, is_joined, joined_with, numbers_of, rises, sum_along
from cellrises.potentials import barring_round, closed_count, potential, risen_count
from tests.helpers import CELLS, Refusals, error_of, junk, wrong_forms, wrong_fractions
from tests.lands import (
    BOTH, LINE, MANY, RING, SHELL, SQUARE, cocycles, kinds_for, made_joined, whitney, wrong_cell_forms, wrong_chains,
    wrong_held, wrong_partings,
)
from tests.helpers import chances

ONE, LESS = (1, 1), (-1, 1)
LANDS = (LINE, RING, SQUARE, BOTH)
ROUNDS = (is_round, bounding, weights_against)
BY_DIMENSION = (rounds_of, holes)
COUNTS = (count_of, closed_count, risen_count)
BARS = (potential, barring_round)
NO_NUMBERS = [each for each in junk() if type(each) is not int] + ["1", (1,), [1], -1, 10 ** 399, -10 ** 399]
NO_KINDS = [each for each in junk() if each != "whole"] + ["Whole", "trimme", "trimmed ", b"whole", ("whole",), ["trimmed"], 1]


def nought(parting, sort):
    """The tuple of noughts."""
    return ((parting[0], sort, ()),) * len(parting[1])


def form(dimension, sort, power=0, fraction=ONE):
    """A form of one term."""
    return (dimension, sort, ((tuple(range(1, sort + 1)), (power,) + (0,) * (dimension - 1), fraction),))


class Partings(Refusals):
    def test_no_parting(self):
        wrong = wrong_partings()
        for each in wrong:
            kept = {"given": each}
            self.refuses(InvalidParting, kept, border, each, ())
            self.refuses(InvalidParting, kept, is_round, each, (), ())
            self.refuses(InvalidParting, kept, holes, each, (), 0)
            self.refuses(InvalidParting, kept, is_joined, each, ())
            self.refuses(InvalidParting, kept, numbers_of, each, "whole", 1, ())
            self.refuses(InvalidParting, kept, count_of, each, (), "whole", 1, 0)
            self.refuses(InvalidParting, kept, potential, each, (), "whole", 1, ())

    def test_it_comes_first(self):
        for each in wrong_partings()[::11]:
            kept = {"given": each}
            for call in (border, is_joined, rises):
                self.refuses(InvalidParting, kept, call, each, None)
            for call in (*ROUNDS, *BY_DIMENSION, is_held, sum_along):
                self.refuses(InvalidParting, kept, call, each, None, None)
            self.refuses(InvalidParting, kept, numbers_of, each, None, None, None)
            for call in (*COUNTS, *BARS, joined_with):
                self.refuses(InvalidParting, kept, call, each, None, None, None, None)


class Held(Refusals):
    def test_no_lot(self):
        for parting in LANDS:
            for wrong, index in wrong_held(parting):
                kept = {"index": index}
                for call in ROUNDS:
                    self.refuses(InvalidHeld, kept, call, parting, wrong, ())
                for call in BY_DIMENSION:
                    self.refuses(InvalidHeld, kept, call, parting, wrong, 0)
                for call in COUNTS:
                    self.refuses(InvalidHeld, kept, call, parting, wrong, "whole", 1, 0)
                for call in BARS:
                    self.refuses(InvalidHeld, kept, call, parting, wrong, "whole", 1, nought(parting, 1))
                self.refuses(InvalidHeld, kept, is_held, parting, wrong, nought(parting, 0))

    def test_ahead_of_what_stands_behind(self):
        for wrong, index in wrong_held(SQUARE)[::7]:
            kept = {"index": index}
            for call in (*ROUNDS, *BY_DIMENSION, is_held):
                self.refuses(InvalidHeld, kept, call, SQUARE, wrong, None)
            for call in (*COUNTS, *BARS):
                self.refuses(InvalidHeld, kept, call, SQUARE, wrong, None, None, None)

    def test_faces_of_two_cells_together_are_none(self):
        for face in ((0, 3), (0, 1, 3), (0, 1, 2, 3), (0, 2, 3)):
            self.refuses(InvalidHeld, {"index": 1}, holes, SQUARE, ((1, 2), face), 0)
            self.refuses(InvalidHeld, {"index": 0}, is_round, SQUARE, (face, (5,)), ())


class Dimensions(Refusals):
    def test_no_dimension(self):
        for parting in LANDS:
            for wrong in NO_NUMBERS + [parting[0] + 1, 4]:
                for call in BY_DIMENSION:
                    self.refuses(InvalidDimension, {"given": wrong}, call, parting, (), wrong)


class Chains(Refusals):
    def test_no_chain(self):
        for parting in (RING, SQUARE, BOTH):
            for wrong in wrong_chains(parting):
                self.refuses(InvalidChain, {"given": wrong}, border, parting, wrong)
                for call in ROUNDS:
                    self.refuses(InvalidChain, {"given": wrong}, call, parting, (), wrong)
                self.refuses(InvalidChain, {"given": wrong}, sum_along, parting, nought(parting, parting[0]), wrong)

    def test_faces_of_two_cells_together_are_none(self):
        for face in ((0, 3), (0, 1, 3), (0, 1, 2, 3)):
            chain = ((face, ONE),)
            self.refuses(InvalidChain, {"given": chain}, border, SQUARE, chain)
            self.refuses(InvalidChain, {"given": chain}, sum_along, SQUARE, nought(SQUARE, len(face) - 1) if len(face) < 4
                         else nought(SQUARE, 0), chain)

    def test_of_another_dimension_than_the_sort(self):
        for parting in (*LANDS, SHELL):
            for sort in range(parting[0] + 1):
                joined = nought(parting, sort)
                for size in range(1, parting[0] + 2):
                    chain = ((parting[1][0][:size], (2, 3)),)
                    if size == sort + 1:
                        self.assertEqual(sum_along(parting, joined, chain), (0, 1))
                    else:
                        self.refuses(InvalidChain, {"given": chain}, sum_along, parting, joined, chain)
                self.assertIsNone(error_of(sum_along, parting, joined, ()))


class Kinds(Refusals):
    def test_kind(self):
        for parting in LANDS:
            for wrong in NO_KINDS:
                kept = {"given": wrong}
                for call in COUNTS:
                    self.refuses(InvalidKind, kept, call, parting, (), wrong, 1, 0)
                    self.refuses(InvalidKind, kept, call, parting, (), wrong, None, None)
                for call in BARS:
                    self.refuses(InvalidKind, kept, call, parting, (), wrong, 1, nought(parting, 1))
                    self.refuses(InvalidKind, kept, call, parting, (), wrong, None, None)
                self.refuses(InvalidKind, kept, numbers_of, parting, wrong, 1, nought(parting, 1))
                self.refuses(InvalidKind, kept, joined_with, parting, wrong, None, None, None)

    def test_degree(self):
        for parting in (*LANDS, SHELL):
            for wrong in NO_NUMBERS + [4, 5] + ([3] if parting[0] == 3 else []):
                for kind in ("whole", "trimmed"):
                    self.check_degree(parting, kind, wrong)
            self.check_degree(parting, "trimmed", 0)

    def check_degree(self, parting, kind, wrong):
        """A degree is refused by all functions, ahead of what stands behind."""
        kept = {"given": wrong}
        for call in COUNTS:
            self.refuses(InvalidDegree, kept, call, parting, (), kind, wrong, parting[0])
            self.refuses(InvalidDegree, kept, call, parting, (), kind, wrong, None)
        for call in BARS:
            self.refuses(InvalidDegree, kept, call, parting, (), kind, wrong, nought(parting, parting[0]))
            self.refuses(InvalidDegree, kept, call, parting, (), kind, wrong, None)
        self.refuses(InvalidDegree, kept, numbers_of, parting, kind, wrong, nought(parting, parting[0]))
        self.refuses(InvalidDegree, kept, numbers_of, parting, kind, wrong, None)
        self.refuses(InvalidDegree, kept, joined_with, parting, kind, wrong, parting[0], None)

    def test_sort(self):
        for parting in (*LANDS, SHELL):
            for kind, degree in (("whole", 1), ("trimmed", 2), ("whole", 0)):
                for wrong in NO_NUMBERS + [parting[0] + 1] + (list(range(parting[0])) if degree == 0 else []):
                    for call in COUNTS:
                        self.refuses(InvalidSort, {"given": wrong}, call, parting, (), kind, degree, wrong)
                    self.refuses(InvalidSort, {"given": wrong}, joined_with, parting, kind, degree, wrong, None)

    def test_all_told_kinds_are_right(self):
        for parting in (*LANDS, SHELL):
            for kind, degree, sort in kinds_for(parting):
                for call in COUNTS:
                    self.assertIsNone(error_of(call, parting, (), kind, degree, sort))


class Numbers(Refusals):
    def test_no_tuple_of_as_many(self):
        for parting, told in ((LINE, ("whole", 1, 0)), (SQUARE, ("trimmed", 1, 1)), (BOTH, ("whole", 0, 3))):
            many = count_of(parting, (), *told)
            wrong = [each for each in junk() if not isinstance(each, tuple) or len(each) != many]
            wrong += [(), (ONE,) * (many - 1), (ONE,) * (many + 1), [ONE] * many, {at: ONE for at in range(many)}, ONE * 5]
            for each in wrong:
                self.refuses(InvalidNumbers, {"index": None}, joined_with, parting, *told, each)

    def test_elements_of_it(self):
        for parting, told in ((LINE, ("whole", 1, 0)), (SQUARE, ("trimmed", 1, 1))):
            many = count_of(parting, (), *told)
            for at in range(many):
                for each in wrong_fractions():
                    numbers = (ONE,) * at + (each,) + (ONE,) * (many - at - 1)
                    self.refuses(InvalidNumbers, {"index": at}, joined_with, parting, *told, numbers)
                numbers = (ONE,) * at + (None,) * (many - at)
                self.refuses(InvalidNumbers, {"index": at}, joined_with, parting, *told, numbers)


class CellForms(Refusals):
    def calls(self, parting, joined):
        """All calls with cell forms, as pairs of a function and its arguments."""
        found = [(is_joined, (parting, joined)), (rises, (parting, joined)), (numbers_of, (parting, "trimmed", 1, joined))]
        found += [(is_held, (parting, (), joined)), (sum_along, (parting, joined, ()))]
        return found + [(call, (parting, (), "whole", 1, joined)) for call in BARS]

    def test_no_cell_forms(self):
        for parting in LANDS:
            for sort in range(parting[0] + 1):
                for wrong, index in wrong_cell_forms(parting, sort):
                    for call, given in self.calls(parting, wrong):
                        self.refuses(InvalidJoined, {"index": index}, call, *given)

    def test_each_wrong_form(self):
        for wrong in wrong_forms():
            joined = (form(2, 1), wrong)
            for call, given in self.calls(SQUARE, joined):
                self.refuses(InvalidJoined, {"index": 1}, call, *given)
            self.refuses(InvalidJoined, {"index": 0}, is_joined, SQUARE, joined[::-1])

    def test_sorts_unlike_that_of_the_first_one(self):
        for dimension, sort in CELLS:
            for other in range(dimension + 1):
                if dimension > 0 and sort != other:
                    parting = {1: RING, 2: SQUARE, 3: BOTH}[dimension]
                    joined = nought(parting, sort)[:-1] + ((dimension, other, ()),)
                    for call, given in self.calls(parting, joined):
                        self.refuses(InvalidJoined, {"index": len(joined) - 1}, call, *given)

    def test_ahead_of_what_stands_behind(self):
        self.refuses(InvalidJoined, {"index": None}, sum_along, SQUARE, (), None)
        self.refuses(InvalidJoined, {"index": 1}, sum_along, SQUARE, (form(2, 0), None), [((0,), ONE)])


class NotJoinedOnes(Refusals):
    def test_the_least_index(self):
        fan = (2, ((0, 1, 2), (0, 1, 3), (0, 1, 4), (0, 1, 5)))
        plain, other = form(2, 0), form(2, 0, 0, (2, 1))
        for index in range(1, 4):
            for joined in ((plain,) * index + (other,) * (4 - index), (plain,) * index + (other,) + (plain,) * (3 - index)):
                for call, given in self.calls(fan, joined):
                    self.refuses(NotJoined, {"index": index}, call, *given)
                self.assertIs(is_joined(fan, joined), False)
        self.refuses(NotJoined, {"index": 1}, is_held, fan, (), (other, plain, plain, plain))

    def calls(self, parting, joined):
        """All calls with joined tuples of the sort 0."""
        return [(rises, (parting, joined)), (numbers_of, (parting, "trimmed", 1, joined)), (is_held, (parting, ((0,),), joined)),
                (sum_along, (parting, joined, None))]

    def test_of_any_cell_ahead(self):
        # The third cell goes with the second one alone.
        parting = (1, ((0, 1), (1, 2), (2, 3)))
        self.refuses(NotJoined, {"index": 2}, rises, parting, (form(1, 0), form(1, 0), form(1, 0, 1, LESS)))
        self.refuses(NotJoined, {"index": 1}, rises, parting, (form(1, 0), form(1, 0, 1), form(1, 0)))

    def test_ahead_of_the_chain(self):
        joined = (form(2, 0), form(2, 0, 0, LESS))
        for wrong in (None, [], ((0, 1),), (((0, 1), ONE),), (((0,), (2, 4)),)):
            self.refuses(NotJoined, {"index": 1}, sum_along, SQUARE, joined, wrong)

    def test_rises_of_the_highest_sort(self):
        for parting in (*LANDS, MANY):
            for joined in (nought(parting, parting[0]), (form(parting[0], parting[0], 2),) * len(parting[1])):
                self.refuses(InvalidJoined, {"index": 0}, rises, parting, joined)
            broken = nought(parting, parting[0])[:-1] + (None,)
            self.refuses(InvalidJoined, {"index": len(broken) - 1}, rises, parting, broken)


class OfAKind(Refusals):
    def test_degree_0_beside_another_sort(self):
        for parting in LANDS:
            for sort in range(parting[0]):
                apart = (form(parting[0], sort),) + (form(parting[0], sort, 0, LESS),) * (len(parting[1]) - 1)
                for joined in (nought(parting, sort), apart, (form(parting[0], sort, 9),) * len(parting[1])):
                    self.refuses(InvalidDegree, {"given": 0}, numbers_of, parting, "whole", 0, joined)
                    for call in BARS:
                        if sort > 0:
                            self.refuses(InvalidDegree, {"given": 0}, call, parting, (), "whole", 0, joined)
                        else:
                            self.refuses(InvalidSort, {"given": 0}, call, parting, (), "whole", 0, joined)
            self.assertIsNone(error_of(numbers_of, parting, "whole", 0, nought(parting, parting[0])))

    def test_not_of_the_kind(self):
        for parting in LANDS:
            for kind, degree, sort in kinds_for(parting):
                high = form(parting[0], sort, degree + 1)
                for index in range(len(parting[1])):
                    if sort == parting[0]:
                        joined = nought(parting, sort)[:index] + (high,) * (len(parting[1]) - index)
                        self.refuses(NotOfKind, {"index": index}, numbers_of, parting, kind, degree, joined)
                        for call in BARS:
                            self.refuses(NotOfKind, {"index": index}, call, parting, parting[1], kind, degree, joined)

    def test_not_joined_ahead_of_not_of_the_kind(self):
        joined = (form(2, 0, 9), form(2, 0, 8))
        self.refuses(NotJoined, {"index": 1}, numbers_of, SQUARE, "whole", 1, joined)
        joined = (form(2, 1, 9), form(2, 1))
        for call in BARS:
            self.refuses(NotJoined, {"index": 1}, call, SQUARE, ((5,),)[:0], "whole", 1, joined)

    def test_a_form_of_the_whole_kind_that_is_not_trimmed(self):
        single = (2, ((0, 1, 2),))
        joined = ((2, 1, (((1,), (0, 1), ONE), ((2,), (1, 0), ONE))),)
        self.refuses(NotOfKind, {"index": 0}, numbers_of, single, "trimmed", 1, joined)
        self.assertIsNone(error_of(numbers_of, single, "whole", 1, joined))
        for call in BARS:
            self.refuses(NotOfKind, {"index": 0}, call, single, (), "trimmed", 1, joined)
            self.assertIsNone(error_of(call, single, (), "whole", 1, joined))


class Risen(Refusals):
    def test_sort_0(self):
        for parting in LANDS:
            apart = (form(parting[0], 0),) + (form(parting[0], 0, 0, LESS),) * (len(parting[1]) - 1)
            for joined in (nought(parting, 0), apart, (form(parting[0], 0, 9),) * len(parting[1])):
                for call in BARS:
                    self.refuses(InvalidSort, {"given": 0}, call, parting, parting[1], "trimmed", 1, joined)
            broken = nought(parting, 0)[:-1] + (None,)
            for call in BARS:
                self.refuses(InvalidJoined, {"index": len(broken) - 1}, call, parting, (), "trimmed", 1, broken)

    def test_not_held(self):
        for parting in LANDS:
            for kind, degree, sort in kinds_for(parting):
                if sort > 0:
                    chance = chances("not held", parting, kind, degree, sort)
                    joined = made_joined(chance, parting, kind, degree, sort)
                    for call in BARS:
                        self.refuses(NotHeld, {}, call, parting, (parting[1][0], parting[1][-1]), kind, degree, joined)

    def test_not_of_the_kind_ahead_of_not_held_ahead_of_not_closed(self):
        turn = (2, 1, (((1,), (0, 1), LESS), ((2,), (1, 0), ONE)))
        single = (2, ((0, 1, 2),))
        for call in BARS:
            self.refuses(NotClosed, {}, call, single, (), "trimmed", 1, (turn,))
            self.refuses(NotClosed, {}, call, single, ((0, 1),), "trimmed", 1, (turn,))
            self.refuses(NotHeld, {}, call, single, ((0, 1), (1, 2)), "trimmed", 1, (turn,))
            high = (2, 1, (((1,), (0, 4), ONE),))
            self.refuses(NotOfKind, {"index": 0}, call, single, ((0, 1), (1, 2)), "trimmed", 3, (high,))

    def test_not_closed(self):
        for parting in (SQUARE, BOTH, SHELL):
            for kind, degree, sort in kinds_for(parting):
                if 0 < sort < parting[0]:
                    chance = chances("not closed", parting, kind, degree, sort)
                    joined = made_joined(chance, parting, kind, degree, sort)
                    for call in BARS:
                        self.refuses(NotClosed, {}, call, parting, (), kind, degree, joined)

    def test_closed_ones_are_right(self):
        for parting in (RING, SHELL):
            for cycle in cocycles(parting, (), parting[0])[:2]:
                for call in BARS:
                    self.assertIsNone(error_of(call, parting, (), "whole", 0, whitney(parting, parting[0], cycle)))


if __name__ == "__main__":
    unittest.main()
