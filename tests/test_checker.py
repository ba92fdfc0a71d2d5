"""What the checker accepts, and what not."""

import unittest

from cellrises.checker import accepts
from cellrises.elements import told_element
from cellrises.forms import plus, times_number
from cellrises.spans import trimmed_span, whole_span
from tests.claims import (
    ABOUT, ALONG, ASIDE, CUBE, HAT, LINED, LOOSE, PARTS, PLAIN, RISING, ROWS, STEP, TRUTHS, TURN, TWICE, WITHOUT_PAPER, all_claims,
    is_so, shifted,
)
from tests.helpers import bent, both_ways, deep, junk, wrong_forms
from tests.lands import BAND, LINE, RING, SHELL, SQUARE, wrong_held, wrong_partings
from tests.weighing import BIG, DOT, NIL, ONE, SMALL, inner_element, wrong_elements

LESS = (-1, 1)


class Right(unittest.TestCase):
    def test_right_claims_with_right_papers(self):
        for claim, paper in all_claims():
            with self.subTest(claim=claim):
                self.assertIs(both_ways(accepts, claim, paper), True)
                self.assertTrue(is_so(claim, paper))

    def test_all_kinds_of_claims(self):
        names = {claim[0] for claim, _ in all_claims()}
        self.assertEqual(names, set(TRUTHS))
        self.assertEqual(names, {name for row in ROWS for name in row} | {"holes"})

    def test_names(self):
        for claim, paper in all_claims():
            for name in (claim[0].upper(), claim[0] + " ", " " + claim[0], claim[0][:-1], claim[0].encode(), (claim[0],), ""):
                self.assertIs(accepts((name, *claim[1:]), paper), False)
            for other in TRUTHS:
                if other != claim[0]:
                    found = accepts((other, *claim[1:]), paper)
                    self.assertEqual(found, is_so((other, *claim[1:]), paper), (other, claim))

    def test_as_many_parts_as_told(self):
        for claim, paper in all_claims():
            self.assertEqual(len(claim), PARTS.get(claim[0], 2) + 1)
            for other in (claim[:-1], claim + claim[-1:], claim + ((),), claim[1:], claim[:1], (claim[0], (), *claim[1:]), list(claim)):
                self.assertIs(accepts(other, paper), False)
                self.assertIs(accepts(other, ()), False)
            self.assertIs(accepts(claim[0], paper), False)


class Bent(unittest.TestCase):
    def test_each_part_of_each_claim(self):
        for claim, paper in all_claims():
            for wrong in bent(claim):
                if repr(wrong) != repr(claim):
                    self.assertIs(accepts(wrong, paper), False, (wrong, paper))

    def test_each_part_of_each_paper(self):
        for claim, paper in all_claims():
            for wrong in bent(paper):
                if repr(wrong) != repr(paper):
                    self.assertIs(accepts(claim, wrong), False, (claim, wrong))

    def test_numbers_one_more_or_less_and_elements_left_out_or_twice(self):
        seen = {True: 0, False: 0}
        for claim, paper in all_claims():
            for other in shifted(claim):
                found = accepts(other, paper)
                self.assertIs(found, is_so(other, paper), (other, paper))
                seen[found] += 1
            for other in shifted(paper):
                found = accepts(claim, other)
                self.assertIs(found, is_so(claim, other), (claim, other))
                seen[found] += 1
        self.assertGreater(min(seen.values()), 100, seen)

    def test_values_of_any_kind(self):
        papers = junk() + wrong_forms()[::9]
        for claim, paper in all_claims():
            for wrong in papers:
                if repr(wrong) != repr(paper):
                    self.assertIs(accepts(claim, wrong), is_so(claim, wrong), (claim, wrong))
                self.assertIs(accepts(wrong, paper), False)
            for at in range(1, len(claim)):
                for wrong in junk():
                    other = claim[:at] + (wrong,) + claim[at + 1:]
                    self.assertIs(accepts(other, paper), is_so(other, paper), (other, paper))
        for wrong in [(), *papers]:
            for other in [(), *papers[::3]]:
                self.assertIs(accepts(wrong, other), False)

    def test_values_nested_deep(self):
        for wrong in (deep(14, lambda value: (value,)), deep(12, lambda value: ("rise", value)), deep(13, lambda value: [value])):
            for claim, paper in all_claims():
                self.assertIs(accepts(claim, wrong), False)
                self.assertIs(accepts((claim[0], *[wrong] * (len(claim) - 1)), paper), False)
                self.assertIs(accepts((claim[0], *[wrong] * (len(claim) - 1)), ()), False)


class Papers(unittest.TestCase):
    def test_nothing_where_no_paper_is_told_and_only_there(self):
        for claim, paper in all_claims():
            self.assertEqual(claim[0] in WITHOUT_PAPER, paper == () and claim[0] != "bounds")
            self.assertIs(accepts(claim, ()), is_so(claim, ()))
            if claim[0] not in WITHOUT_PAPER and claim[0] != "bounds":
                self.assertIs(accepts(claim, ()), False)

    def test_papers_of_other_claims(self):
        claims = all_claims()
        for claim, own in claims:
            accepted = [paper for _, paper in claims if accepts(claim, paper)]
            self.assertIn(own, accepted)
            self.assertEqual(accepted, [paper for _, paper in claims if is_so(claim, paper)], claim)
            if claim[0] in WITHOUT_PAPER:
                self.assertEqual(set(accepted), {()})

    def test_never_both_of_two_that_exclude_one_another(self):
        claims = all_claims()
        for first, second in [*ROWS, *[row[::-1] for row in ROWS]]:
            for claim, paper in claims:
                if claim[0] == first:
                    self.assertIs(accepts(claim, paper), True)
                    for other in [(), paper] + [each for _, each in claims]:
                        self.assertIs(accepts((second, *claim[1:]), other), False, (second, claim, other))

    def test_holes_of_one_number_alone(self):
        for parting, held, dimension in ((RING, (), 1), (BAND, (), 1), (SHELL, (), 2), (LINE, ((0,), (1,)), 1)):
            accepted = [many for many in range(-3, 9) if accepts(("holes", parting, held, dimension, many), ())]
            self.assertEqual(len(accepted), 1)
            for wrong in (True, False, None, (1, 1), (accepted[0],), str(accepted[0]), 10 ** 399):
                self.assertIs(accepts(("holes", parting, held, dimension, wrong), ()), False)


class Forms(unittest.TestCase):
    def test_rises(self):
        for form in whole_span(2, 1, 1):
            risen = accepts(("no rise", form), ())
            self.assertEqual(risen, form in (whole_span(2, 1, 1)[1], whole_span(2, 1, 1)[5]))
        for wrong in ((2, 0, ()), (1, 0, (((), (1,), ONE),)), (3, 0, ())):
            for name in ("rise", "no rise"):
                for paper in ((), (2, 0, ()), wrong):
                    self.assertIs(accepts((name, wrong), paper), False)
        self.assertIs(accepts(("rise", TURN), (2, 0, (((), (1, 1), ONE),))), False)
        self.assertIs(accepts(("rise", ASIDE), (1, 0, (((), (1,), ONE),))), False)

    def test_spans(self):
        self.assertIs(accepts(("within", (TURN, ASIDE), TURN), ((2, 2), NIL)), False)
        self.assertIs(accepts(("within", (TURN, ASIDE), TURN), (ONE, NIL, NIL)), False)
        self.assertIs(accepts(("within", (TURN, ASIDE), TURN), [ONE, NIL]), False)
        self.assertIs(accepts(("within", (TURN, ASIDE), PLAIN), (ONE, NIL)), False)
        self.assertIs(accepts(("without", (TURN, ASIDE), PLAIN), ()), False)
        self.assertIs(accepts(("within", (), TURN), ()), False)
        self.assertIs(accepts(("within", ((2, 1, ()),), (2, 1, ())), (BIG,)), True)

    def test_exact(self):
        for dimension in (1, 2, 3):
            for sort in range(1, dimension + 1):
                for forms, others, expected in (
                        (whole_span(dimension, 1, sort - 1), whole_span(dimension, 0, sort), True),
                        (whole_span(dimension, 1, sort - 1), whole_span(dimension, 1, sort), False),
                        (trimmed_span(dimension, 2, sort - 1), trimmed_span(dimension, 2, sort), True)):
                    self.assertIs(accepts(("exact", forms, others), ()), expected)
                    self.assertIs(accepts(("exact", others, forms), ()), False)
        self.assertIs(accepts(("stray", (PLAIN, RISING), (ALONG, STEP)), STEP), True)
        self.assertIs(accepts(("stray", (PLAIN, RISING), (ALONG, STEP)), ALONG), False)
        self.assertIs(accepts(("stray", (PLAIN, RISING), (ALONG, STEP)), (1, 1, ())), False)
        self.assertIs(accepts(("stray", (PLAIN, RISING), (ALONG,)), STEP), False)

    def test_forms_that_are_not_free(self):
        ends = (((0,), DOT), ((1,), DOT))
        for name, paper in (("settles", ()), ("misses", PLAIN), ("misses", RISING), ("ties", (ONE, LESS))):
            self.assertIs(accepts((name, (PLAIN, PLAIN), ends), paper), (name, paper) == ("ties", (ONE, LESS)))
        self.assertIs(accepts(("settles", (PLAIN, RISING, RISING), (*ends, ends[0])), ()), False)

    def test_numbers_that_all_are_0_tie_nothing(self):
        ends = (((0,), DOT), ((1,), DOT))
        self.assertIs(accepts(("ties", (PLAIN,), ends), (ONE, LESS)), True)
        self.assertIs(accepts(("ties", (PLAIN,), ends), (NIL, NIL)), False)
        self.assertIs(accepts(("ties", ((1, 0, ()),), ends), (NIL, NIL)), False)
        self.assertIs(accepts(("ties", ((1, 0, ()),), ends), (NIL, BIG)), True)

    def test_weights_for_other_forms(self):
        for weights in ((), ((0, 1), ALONG), (((0, 1), PLAIN),), (((0, 1), ALONG), None), [((0, 1), ALONG)]):
            for name, paper in (("settles", ()), ("misses", RISING), ("ties", (ONE,)), ("ties", ())):
                self.assertIs(accepts((name, (PLAIN,), weights), paper), False)


class Elements(unittest.TestCase):
    def test_told_elements_join(self):
        for told in SMALL:
            self.assertIs(accepts(("joins", told_element(*told)), ()), True)
            self.assertIs(accepts(("joins", inner_element(*told)), ()), told[1] == told[3])

    def test_no_elements(self):
        for wrong in wrong_elements()[::5]:
            for claim, paper in ((("joins", wrong), ()), (("jumps", wrong), ((0,), (0,), PLAIN, RISING)),
                                 (("joins against", wrong, DOT), ()), (("jumps against", wrong, DOT), ((0,), (0,), PLAIN, RISING)),
                                 (("keeps rises", wrong, LINED), ()), (("keeps rises", HAT, wrong), ()),
                                 (("parts rises", wrong, LINED), CUBE), (("parts rises", LOOSE, wrong), CUBE)):
                self.assertIs(accepts(claim, paper), False)

    def test_faces_of_jumps(self):
        low = plus(RISING, times_number(PLAIN, (-1, 2)))
        for paper, expected in ((((0,), (1,), low, low), True), (((1,), (0,), low, low), True), (((0,), (0,), low, low), False),
                                (((0,), (0,), low, (1, 0, ())), True), (((0, 1), (0, 1), low, (1, 0, ())), False),
                                (((0,), (0, 1), low, low), False), (((2,), (1,), low, low), False), (((0,), (1,), CUBE, low), False),
                                (((), (), low, PLAIN), False), (((0,), (1,), low), False), (((0,), (1,), low, low, low), False)):
            self.assertIs(accepts(("jumps", LOOSE), paper), expected, paper)
            self.assertIs(accepts(("jumps against", LOOSE, DOT), paper), expected, paper)
            self.assertIs(accepts(("jumps", HAT), paper), False)
            self.assertIs(accepts(("jumps against", HAT, DOT), paper), False)

    def test_what_is_missed_on_the_cell_itself_is_no_jump(self):
        low = plus(RISING, times_number(PLAIN, (-1, 2)))
        element = ((PLAIN, RISING), ((), (ALONG,)))
        for faces, expected in ((((0, 1), (0, 1)), False), (((0,), (0,)), True)):
            paper = (*faces, low, (1, 0, ()))
            self.assertIs(accepts(("jumps", element), paper), expected)
            self.assertIs(accepts(("jumps against", element, DOT), paper), expected)

    def test_a_jump_on_faces_of_another_dimension_than_the_test(self):
        element = (whole_span(2, 1, 0), ((), (ALONG,), ()))
        low = (2, 0, (((), (0, 0), (-1, 2)), ((), (1, 0), ONE)))
        nought = (2, 0, ())
        for paper, felt in ((((0, 1), (0, 1), low, nought), STEP), (((0,), (0,), low, nought), DOT)):
            self.assertIs(accepts(("jumps", element), paper), True)
            for test in (STEP, DOT):
                self.assertIs(accepts(("jumps against", element, test), paper), test == felt)

    def test_a_jump_that_a_test_does_not_feel(self):
        span = whole_span(2, 2, 0)
        element = (span, ((DOT,), (), ()))
        hump = (2, 0, (((), (1, 0), ONE), ((), (2, 0), LESS)))
        odd = (1, 0, (((), (0,), LESS), ((), (1,), (2, 1))))
        paper = ((0, 1), (0, 1), hump, (2, 0, ()))
        self.assertIs(accepts(("jumps", element), paper), True)
        self.assertIs(accepts(("jumps against", element, ALONG), paper), True)
        weight = (1, 1, tuple(((1,), *term[1:]) for term in odd[2]))
        self.assertIs(accepts(("jumps against", element, weight), paper), False)
        self.assertIs(accepts(("jumps against", element, DOT), paper), False)

    def test_tests_of_a_degree_above_4(self):
        high = ((PLAIN,), ((), ((1, 1, (((1,), (5,), ONE),)),)))
        self.assertIs(accepts(("jumps", high), ((0,), (0,), PLAIN, (1, 0, ()))), True)
        self.assertIs(accepts(("joins", high), ()), False)
        for other in (LINED, ((ALONG,), ((), (PLAIN,)))):
            self.assertIs(accepts(("keeps rises", high, other), ()), False)
            self.assertIs(accepts(("parts rises", high, other), CUBE), False)

    def test_two_that_do_not_go_together_or_do_not_settle(self):
        loose = (HAT[0], ((), ()))
        for element, other in ((LINED, HAT), (HAT, HAT), (loose, LINED), (HAT, (LINED[0], ((), ()))), (HAT, told_element("trimmed", 2, 1, 1))):
            for claim, paper in ((("keeps rises", element, other), ()), (("parts rises", element, other), CUBE),
                                 (("parts rises", element, other), STEP)):
                self.assertIs(accepts(claim, paper), False)

    def test_forms_that_do_not_part(self):
        for paper, expected in ((CUBE, True), (PLAIN, False), (RISING, False), ((1, 0, ()), False), (ALONG, False), (TURN, False),
                                (plus(CUBE, RISING), True), ((1, 0, (((), (12,), BIG),)), True)):
            self.assertIs(accepts(("parts rises", LOOSE, LINED), paper), expected, paper)
            self.assertIs(accepts(("parts rises", HAT, LINED), paper), False)


class Lands(unittest.TestCase):
    def test_no_partings_and_no_lots(self):
        for claim, paper in all_claims():
            if claim[0] in ("round", "no round", "bounds", "does not bound", "holes", "joined", "not joined", "risen", "not risen"):
                for wrong in wrong_partings()[::13]:
                    self.assertIs(accepts((claim[0], wrong, *claim[2:]), paper), False)
                if "joined" not in claim[0]:
                    for wrong, _ in wrong_held(claim[1])[::5]:
                        self.assertIs(accepts((*claim[:2], wrong, *claim[3:]), paper), False)

    def test_bounding_chains_of_other_dimensions(self):
        turn = (((1, 2), ONE), ((1, 3), LESS), ((2, 3), ONE))
        for chain, paper, expected in (((), (((0,), ONE),), False), ((), turn, True), ((), turn[:1], False), ((), (), True),
                                       (turn, (((1, 2, 3), ONE),), True), (turn, turn, False), (turn, (((0,), ONE),), False),
                                       (turn, (), False), ((((0,), LESS), ((1,), ONE)), (((0, 1), ONE),), True),
                                       ((((0,), LESS), ((1,), ONE)), (((0, 1, 2), ONE),), False),
                                       ((((0, 1, 2), ONE),), (((0, 1, 2), ONE),), False)):
            self.assertIs(accepts(("bounds", SQUARE, (), chain), paper), expected, (chain, paper))
        whole = SQUARE[1]
        for chain in (turn, (((0,), ONE),), (((0, 1, 2), ONE),), ()):
            self.assertIs(accepts(("bounds", SQUARE, whole, chain), ()), True)
            self.assertIs(accepts(("bounds", SQUARE, whole, chain), (((0, 1, 2), BIG),)), chain in (turn, ()))
            self.assertIs(accepts(("does not bound", SQUARE, whole, chain), chain), False)

    def test_weights(self):
        for paper, expected in (((((0, 1), ONE),), True), (ABOUT, True), ((), False), ((((0,), ONE),), False),
                                ((((0, 1), ONE), ((0, 2), ONE)), False), ((((0, 1), ONE), ((1, 2), LESS)), False)):
            self.assertIs(accepts(("does not bound", RING, (), ABOUT), paper), expected, paper)
        # Of the square the weights have to make 0 of the borders of both triangles.
        chain = (((0, 1), ONE),)
        self.assertIs(accepts(("does not bound", SQUARE, (), chain), (((0, 1), ONE), ((0, 2), ONE))), True)
        self.assertIs(accepts(("does not bound", SQUARE, (), chain), (((0, 1), ONE), ((1, 2), LESS))), False)
        self.assertIs(accepts(("does not bound", SQUARE, ((0, 2),), chain), (((0, 1), ONE), ((0, 2), ONE))), False)

    def test_potentials(self):
        claim = ("risen", RING, (), "whole", 0, (ALONG, TWICE, ALONG))
        zero = (PLAIN[:2] + ((),))
        right = (RISING, (1, 0, (((), (1,), (2, 1)),)), plus(PLAIN, RISING))
        self.assertIs(accepts(claim, right), True)
        self.assertIs(accepts(claim, right[:2] + (RISING,)), False)
        self.assertIs(accepts(claim, (zero,) * 3), False)
        self.assertIs(accepts(claim, right[:2]), False)
        self.assertIs(accepts(claim, (ALONG, TWICE, ALONG)), False)
        self.assertIs(accepts((*claim[:2], ((0,),), *claim[3:]), right), True)
        self.assertIs(accepts((*claim[:2], ((1,),), *claim[3:]), right), False)
        for wrong in (("whole", 4), ("trimmed", 0), ("whole", True), ("Whole", 0), ("trimmed", 4), ("whole", -1)):
            self.assertIs(accepts((*claim[:3], *wrong, claim[5]), right), False)
        for degree in (1, 2, 3):
            self.assertIs(accepts((*claim[:3], "trimmed", degree, claim[5]), right), True)

    def test_potentials_of_a_higher_degree_than_the_kind_ahead(self):
        single = (2, ((0, 1, 2),))
        claim = ("risen", single, (), "trimmed", 1, (ASIDE,))
        self.assertIs(accepts(claim, ((2, 0, (((), (0, 1), ONE),)),)), True)
        flat = (2, 2, (((1, 2), (0, 0), (2, 1)),))
        for kind, degree, extra, expected in (("trimmed", 1, False, True), ("trimmed", 1, True, False), ("whole", 0, True, False),
                                              ("trimmed", 2, True, True), ("whole", 1, True, True), ("whole", 0, False, True)):
            paper = plus(TURN, (2, 1, (((1,), (1, 0), ONE),))) if extra else TURN
            self.assertIs(accepts(("risen", single, (), kind, degree, (flat,)), (paper,)), expected, (kind, degree, extra))

    def test_rounds_that_bar(self):
        claim = ("not risen", RING, (), "whole", 0, (ALONG, ALONG, ALONG))
        for paper, expected in ((ABOUT, True), ((((0, 1), ONE),), False), ((), False), ((((0,), ONE),), False)):
            self.assertIs(accepts(claim, paper), expected)
        self.assertIs(accepts(("not risen", RING, (), "whole", 0, (ALONG, TWICE, ALONG)), ABOUT), False)
        self.assertIs(accepts(("not risen", RING, ((0,), (1,)), "whole", 0, (ALONG, TWICE, ALONG)), (((0, 1), ONE),)), True)
        self.assertIs(accepts(("not risen", RING, ((0,), (1,)), "whole", 0, (ALONG, TWICE, ALONG)), (((0, 2), ONE),)), False)

    def test_tuples_that_are_no_closed_joined_held_ones(self):
        single = (2, ((0, 1, 2),))
        for claim in (("risen", single, (), "trimmed", 1, (TURN,)), ("risen", single, ((0, 1), (1, 2)), "trimmed", 1, (ASIDE,)),
                      ("risen", single, (), "trimmed", 1, ((2, 0, (((), (0, 0), ONE),)),)), ("risen", single, (), "whole", 0, (ASIDE,))):
            for paper in (((2, 0, (((), (0, 1), ONE),)),), ((2, 0, ()),), ABOUT, ()):
                self.assertIs(accepts(claim, paper), False)
                self.assertIs(accepts(("not risen", *claim[1:]), paper), False)


if __name__ == "__main__":
    unittest.main()
