"""Claims with papers: the right one of two, the parts as they were passed, and accepted by the checker."""

import unittest

from cellrises.certificates import (
    certify_against, certify_bounding, certify_exact, certify_holes, certify_joined, certify_joining, certify_rise,
    certify_risen, certify_rises, certify_round, certify_settling, certify_within,
)
from cellrises.chains import bounding, holes, is_round, rounds_of
from cellrises.checker import accepts
from cellrises.closed import risen_from
from cellrises.elements import told_element
from cellrises.forms import plus, rise, times_number
from cellrises.joined import is_joined, rises
from cellrises.measured import keeps_rises
from cellrises.measures import missed_form, settles, tied_weights
from cellrises.meetings import joins, joins_against
from cellrises.potentials import potential
from cellrises.spans import is_exact, is_within, trimmed_span, whole_span
from tests.claims import ALONG, HAT, LINED, LOOSE, PLAIN, RISING, ROWS, STEP, all_claims, is_so
from tests.helpers import CELLS, Refusals, as_pair, both_ways, chances, error_of, junk, made_form, made_forms, together, wrong_forms
from tests.lands import (
    BOTH, LINE, NECKLACE, RING, SQUARE, as_chain, kinds_for, made_cell_forms, made_chain, made_joined, some_lands,
    sum_of_tuples, whitney, cocycles, wrong_cell_forms, wrong_chains, wrong_held, wrong_partings,
)
from tests.weighing import BIG, DOT, ONE, SMALL, changed, made_weights, wrong_elements, wrong_weights

LESS = (-1, 1)


class Certified(unittest.TestCase):
    def check(self, call, given, names, expected):
        """The claim of the name that is so is told, with the very arguments and a paper; the other one is not accepted."""
        found = both_ways(call, *given)
        self.assertIs(type(found), tuple)
        claim, paper = found
        self.assertEqual(claim[0], names[0] if expected else names[1])
        self.assertEqual(len(claim), len(given) + 1)
        for part, passed in zip(claim[1:], given):
            self.assertIs(part, passed)
        self.assertIs(accepts(claim, paper), True)
        self.assertTrue(is_so(claim, paper))
        other = names[1] if expected else names[0]
        for wrong in [(), paper] + [each for _, each in all_claims()[::6]]:
            self.assertIs(accepts((other, *claim[1:]), wrong), False)
        return expected

    def tell(self, seen):
        """Both kinds of claims have been seen."""
        self.assertTrue(seen.count(True) > 2 and seen.count(False) > 2, (seen.count(True), seen.count(False)))


class Forms(Certified):
    def test_rises(self):
        seen = []
        for dimension, sort in [cell for cell in CELLS if cell[1] > 0]:
            chance = chances("certify rise", dimension, sort)
            for degree in (0, 1, 3, 7):
                for form in (made_form(chance, dimension, sort, degree), rise(made_form(chance, dimension, sort - 1, degree)),
                             (dimension, sort, ())):
                    seen.append(self.check(certify_rise, (form,), ("rise", "no rise"), risen_from(form) is not None))
        self.tell(seen)

    def test_within(self):
        seen = []
        for dimension, sort in CELLS:
            chance = chances("certify within", dimension, sort)
            for many in (1, 2, 4):
                forms = made_forms(chance, dimension, sort, 2, many)
                for form in (made_form(chance, dimension, sort, 2), together(forms, [chance.randint(-3, 3) for _ in forms]),
                             (dimension, sort, ()), forms[-1]):
                    seen.append(self.check(certify_within, (forms, form), ("within", "without"), is_within(forms, form)))
        self.tell(seen)

    def test_exact(self):
        seen = []
        for dimension, sort in [cell for cell in CELLS if cell[1] > 0]:
            chance = chances("certify exact", dimension, sort)
            pairs = [(whole_span(dimension, 2, sort - 1), whole_span(dimension, 1, sort)),
                     (trimmed_span(dimension, 1, sort - 1), trimmed_span(dimension, 1, sort)),
                     (whole_span(dimension, 1, sort - 1), whole_span(dimension, 1, sort)),
                     (made_forms(chance, dimension, sort - 1, 2, 2), made_forms(chance, dimension, sort, 1, 3))]
            for forms, others in pairs:
                seen.append(self.check(certify_exact, (forms, others), ("exact", "stray"), is_exact(forms, others)))
        self.tell(seen)

    def test_settling(self):
        seen = {"settles": 0, "misses": 0, "ties": 0, None: 0}
        for dimension, sort in CELLS:
            chance = chances("certify settling", dimension, sort)
            for many, weighed in ((1, 1), (2, 2), (3, 2), (2, 4), (3, 3)):
                forms, weights = made_forms(chance, dimension, sort, 2, many), made_weights(chance, dimension, sort, weighed)
                seen[self.check_settling(forms, weights)] += 1
                seen[self.check_settling(forms + forms[:1], weights)] += 1
        self.assertGreater(min(seen.values()), 2, seen)

    def check_settling(self, forms, weights):
        """What is told of forms and weights."""
        found = both_ways(certify_settling, forms, weights)
        if settles(forms, weights):
            name = "settles"
        elif missed_form(forms, weights) is not None:
            name = "misses"
        else:
            name = "ties" if tied_weights(forms, weights) is not None else None
        self.assertEqual(None if found is None else found[0][0], name)
        if found is not None:
            (_, own, weighed), paper = found
            self.assertTrue(own is forms and weighed is weights)
            self.assertIs(accepts(*found), True)
            for other in ("settles", "misses", "ties"):
                if "settles" in (name, other) and name != other:
                    self.assertFalse(accepts((other, forms, weights), paper) or accepts((other, forms, weights), ()))
        return name

    def test_settling_by_hand(self):
        ends = (((0,), DOT), ((1,), DOT))
        self.assertIsNone(certify_settling((PLAIN, PLAIN), ends[:1]))
        self.assertEqual(certify_settling((PLAIN, RISING), ends), (("settles", (PLAIN, RISING), ends), ()))
        self.assertEqual(certify_settling((PLAIN, PLAIN), ends)[0][0], "ties")
        self.assertEqual(certify_settling((PLAIN, RISING), ends[:1])[0][0], "misses")
        self.assertEqual(certify_settling((PLAIN, RISING, plus(PLAIN, RISING)), ends + (((0, 1), ALONG),))[0][0], "ties")

    def test_large_numbers(self):
        chance = chances("certify large")
        forms = tuple(times_number(form, BIG) for form in made_forms(chance, 2, 1, 3, 3))
        form = together(forms, [10 ** 200, 3, -7])
        self.check(certify_within, (forms, form), ("within", "without"), True)
        self.check(certify_rise, (rise((2, 0, (((), (4, 8), BIG),))),), ("rise", "no rise"), True)
        self.assertEqual(self.check_settling(forms, made_weights(chance, 2, 1, 2)), "misses")


class Elements(Certified):
    def elements(self):
        """Some elements: told ones, and such with tests left out."""
        for told in [each for each in SMALL if each[2] < 3 and (each[1] < 3 or each[2] == 1)]:
            element = told_element(*told)
            yield told, element
            yield told, changed(element, told[1] - 1, element[1][told[1] - 1][1:])

    def test_joining(self):
        self.tell([self.check(certify_joining, (element,), ("joins", "jumps"), joins(element)) for _, element in self.elements()])

    def test_against(self):
        seen = []
        for told, element in self.elements():
            for own in range(told[3], told[1]):
                for test in (whole_span(own, 1, own - told[3])[-1], made_form(chances(told), own, own - told[3], 2), (own, own - told[3], ())):
                    names = ("joins against", "jumps against")
                    seen.append(self.check(certify_against, (element, test), names, joins_against(element, test)))
        self.tell(seen)

    def test_rises(self):
        seen = []
        for told in [each for each in SMALL if each[2] < 3 and each[3] < each[1]]:
            for kind, degree in (("trimmed", told[2]), ("whole", told[2] - 1), ("whole", told[2])):
                if degree > 0 or told[3] + 1 == told[1]:
                    pair = (told_element(*told), told_element(kind, told[1], degree, told[3] + 1))
                    if len(pair[0][0]) + len(pair[1][0]) < 40:
                        seen.append(self.check(certify_rises, pair, ("keeps rises", "parts rises"), keeps_rises(*pair)))
        self.tell(seen)
        self.check(certify_rises, (LOOSE, LINED), ("keeps rises", "parts rises"), False)


class Lands(Certified):
    def test_rounds(self):
        seen = []
        for chance, parting, held in some_lands("certify round", 2):
            for dimension in range(parting[0] + 1):
                for chain in (made_chain(chance, parting, dimension), *rounds_of(parting, held, dimension)[:1]):
                    seen.append(self.check(certify_round, (parting, held, chain), ("round", "no round"), is_round(parting, held, chain)))
        self.tell(seen)

    def test_bounding(self):
        seen = []
        for chance, parting, held in some_lands("certify bounding", 2):
            for dimension in range(parting[0] + 1):
                for chain in (made_chain(chance, parting, dimension), *rounds_of(parting, held, dimension)[:2], ()):
                    expected = bounding(parting, held, chain) is not None
                    seen.append(self.check(certify_bounding, (parting, held, chain), ("bounds", "does not bound"), expected))
        self.tell(seen)

    def test_holes(self):
        for _, parting, held in some_lands("certify holes"):
            for dimension in range(parting[0] + 1):
                claim, paper = both_ways(certify_holes, parting, held, dimension)
                self.assertEqual((claim, paper), (("holes", parting, held, dimension, holes(parting, held, dimension)), ()))
                self.assertTrue(claim[1] is parting and claim[2] is held)
                self.assertIs(accepts(claim, paper), True)
                for other in (claim[4] + 1, claim[4] - 1):
                    self.assertIs(accepts((*claim[:4], other), ()), False)

    def test_joined(self):
        seen = []
        for chance, parting, _ in some_lands("certify joined", 2):
            for kind, degree, sort in chance.sample(kinds_for(parting), 2):
                for joined in (made_joined(chance, parting, kind, degree, sort), made_cell_forms(chance, parting, sort)):
                    seen.append(self.check(certify_joined, (parting, joined), ("joined", "not joined"), is_joined(parting, joined)))
        self.tell(seen)

    def test_risen(self):
        seen = []
        for chance, parting, held in some_lands("certify risen", 2):
            for kind, degree, sort in chance.sample([told for told in kinds_for(parting) if told[2] > 0], 1):
                joined = rises(parting, made_joined(chance, parting, "trimmed", 1, sort - 1, held))
                for cycle in [{}] + cocycles(parting, held, sort)[:2]:
                    given = (parting, held, kind, degree, sum_of_tuples(joined, whitney(parting, sort, cycle)))
                    seen.append(self.check(certify_risen, given, ("risen", "not risen"), potential(*given) is not None))
        self.tell(seen)

    def test_large_numbers(self):
        for parting, sort in ((RING, 1), (NECKLACE, 1), (BOTH, 2), (SQUARE, 2)):
            for cycle in cocycles(parting, (), sort)[:3]:
                joined = tuple(times_number(form, BIG) for form in whitney(parting, sort, cycle))
                given = (parting, (), "trimmed", 2, joined)
                self.check(certify_risen, given, ("risen", "not risen"), potential(*given) is not None)
            chain = tuple((face, as_pair(at + 10 ** 300)) for at, (face, _) in enumerate(rounds_of(parting, (), 1)[0]))
            expected = bounding(parting, (), chain) is not None
            self.check(certify_bounding, (parting, (), chain), ("bounds", "does not bound"), expected)


class AllAccepted(unittest.TestCase):
    def test_one_claim_of_each_name(self):
        calls = {"rise": certify_rise, "within": certify_within, "exact": certify_exact, "joins": certify_joining,
                 "joins against": certify_against, "keeps rises": certify_rises, "round": certify_round, "bounds": certify_bounding,
                 "joined": certify_joined, "risen": certify_risen}
        for names in ROWS:
            for claim, _ in all_claims():
                if names[0] in calls and claim[0] in names:
                    found, paper = calls[names[0]](*claim[1:])
                    self.assertEqual(found, claim)
                    self.assertIs(accepts(found, paper), True)
                elif names[0] == "settles" and claim[0] in names:
                    self.assertIs(accepts(*certify_settling(*claim[1:])), True)


class Wrong(Refusals):
    def same(self, call, other, *given):
        """A wrong call raises what another one raises, with the very values."""
        first, second = error_of(call, *given), error_of(other, *given)
        self.assertIsNotNone(first, (call.__name__, given))
        self.assertIs(first[0], second[0])
        self.assertEqual(list(first[1]), list(second[1]))
        for name in first[1]:
            self.assertIs(first[1][name], second[1][name])
        self.refuses(first[0], first[1], call, *given)

    def test_forms(self):
        lots = [(wrong, RISING) for wrong in (None, (), [PLAIN], (PLAIN, ALONG), (None,))]
        for wrong in wrong_forms():
            self.same(certify_rise, risen_from, wrong)
            lots += [((PLAIN, wrong), RISING), ((PLAIN, RISING), wrong)]
        for form in ((1, 0, ()), PLAIN, (3, 0, ())):
            self.same(certify_rise, risen_from, form)
        for forms, form in lots + [((PLAIN,), ALONG), ((None,), None), ((PLAIN,), (2, 0, ()))]:
            self.same(certify_within, is_within, forms, form)
        for forms, others in [((PLAIN,), (PLAIN,)), ((ALONG,), (PLAIN,)), ((), ()), ((PLAIN,), (ALONG, None)), (None, (ALONG,)),
                              ((PLAIN, None), None), ((PLAIN,), [ALONG]), ((PLAIN,), ((2, 1, ()),))]:
            self.same(certify_exact, is_exact, forms, others)

    def test_settling(self):
        for wrong in wrong_weights(1, 0)[::3]:
            self.same(certify_settling, settles, (PLAIN,), (((0,), DOT), wrong))
            self.same(certify_settling, settles, (PLAIN, None), wrong)
        for wrong in (None, (), [((0,), DOT)], ((0,), DOT)):
            self.same(certify_settling, settles, (PLAIN,), wrong)

    def test_elements(self):
        for wrong in wrong_elements()[::3]:
            self.same(certify_joining, joins, wrong)
            self.same(certify_against, joins_against, wrong, None)
            self.same(certify_rises, keeps_rises, wrong, None)
            self.same(certify_rises, keeps_rises, HAT, wrong)
        for wrong in junk() + [PLAIN, (1, 1, ()), ALONG]:
            self.same(certify_against, joins_against, HAT, wrong)
        high = (HAT[0], ((DOT,), ((1, 1, (((1,), (5,), ONE),)),)))
        for first, second in ((LINED, HAT), (high, LINED), (HAT, HAT), (HAT, (LINED[0], ((), ()))), ((HAT[0], ((), ())), LINED),
                              (HAT, told_element("trimmed", 2, 1, 1)), ((HAT[0], ((), (STEP,))), LINED)):
            self.same(certify_rises, keeps_rises, first, second)

    def test_lands(self):
        for wrong in wrong_partings()[::4]:
            self.same(certify_round, is_round, wrong, None, None)
            self.same(certify_bounding, bounding, wrong, None, None)
            self.same(certify_holes, holes, wrong, None, None)
            self.same(certify_joined, is_joined, wrong, None)
            self.same(certify_risen, potential, wrong, None, None, None, None)
        for wrong, _ in wrong_held(SQUARE)[::2]:
            self.same(certify_round, is_round, SQUARE, wrong, None)
            self.same(certify_bounding, bounding, SQUARE, wrong, None)
            self.same(certify_holes, holes, SQUARE, wrong, None)
            self.same(certify_risen, potential, SQUARE, wrong, None, None, None)
        for wrong in wrong_chains(SQUARE):
            self.same(certify_round, is_round, SQUARE, (), wrong)
            self.same(certify_bounding, bounding, SQUARE, (), wrong)
        for wrong, _ in wrong_cell_forms(SQUARE, 1):
            self.same(certify_joined, is_joined, SQUARE, wrong)
            self.same(certify_risen, potential, SQUARE, (), "whole", 1, wrong)
        for wrong in [each for each in junk() if type(each) is not int] + [-1, 3, 4]:
            self.same(certify_holes, holes, SQUARE, (), wrong)

    def test_risen(self):
        turn = (2, 1, (((1,), (0, 1), LESS), ((2,), (1, 0), ONE)))
        single, aside = (2, ((0, 1, 2),)), (2, 1, (((2,), (0, 0), ONE),))
        for given in ((single, (), "trimmed", 1, (turn,)), (single, ((0, 1), (1, 2)), "trimmed", 1, (turn,)), (single, (), "whole", 0, (turn,)),
                      (single, (), "trimmed", 1, ((2, 0, ()),)), (SQUARE, (), "whole", 1, (aside, turn)), (single, (), "Whole", 1, (aside,)),
                      (single, (), "trimmed", 0, (aside,)), (single, (), "whole", 4, (aside,)), (single, (), "whole", 0, ((2, 0, ()),)),
                      (single, (), "whole", 1, ((2, 1, (((2,), (0, 4), ONE),)),)), (LINE, (), "whole", 1, as_chain({}))):
            self.same(certify_risen, potential, *given)


if __name__ == "__main__":
    unittest.main()
