"""Spans of any forms: bases in stairs, what lies in what, closed forms, traces, the rim, strays."""

import unittest
from fractions import Fraction

from cellrises.forms import lowered, plus, product, rise, sum_of, times_number
from cellrises.led import faces_of, trace
from cellrises.spans import (
    are_forms, base_of, closed_of, closed_stray, common, is_exact, is_within, lies_in, noughts_on_rim, rank_of, rises_of,
    stray_of, traces_of, whole_span,
)
from tests.helpers import (
    CELLS, all_pairs, chances, form_of_numbers, is_in_stairs, junk, made_form, made_forms, numbers_of_form, rank_of_forms,
    rank_of_numbers, same_span, together, wrong_forms,
)

ONE, LESS = (1, 1), (-1, 1)


def tuples_of_forms(name, times=6, degree=2, most=6, cells=CELLS):
    """Some tuples of forms of each of the cells and sorts, the nought form alone and one form twice among them."""
    for dimension, sort in cells:
        chance = chances(name, dimension, sort)
        yield ((dimension, sort, ()),)
        form = made_form(chance, dimension, sort, degree)
        yield (form, form)
        yield ((dimension, sort, ()), form, (dimension, sort, ()), times_number(form, (-2, 3)))
        for _ in range(times):
            yield made_forms(chance, dimension, sort, degree, chance.randint(1, most))


def mixed(chance, forms):
    """Other forms with the same span: sums, multiples and repetitions, in another order."""
    told = [times_number(form, (chance.choice((-3, -1, 2)), chance.choice((1, 5)))) for form in forms]
    for _ in range(2 * len(told)):
        at, other = chance.randrange(len(told)), chance.randrange(len(told))
        if at != other:
            told[at] = plus(told[at], times_number(told[other], (chance.choice((-2, -1, 1)), chance.choice((1, 3)))))
    told.append(chance.choice(told))
    chance.shuffle(told)
    return tuple(told)


def rank_with(forms, images_of):
    """How many free rows forms have beside their images."""
    rows = []
    for form in forms:
        row = {}
        for at, image in enumerate(images_of(form)):
            row.update({(at, *pair): worth for pair, worth in numbers_of_form(image).items()})
        rows.append(row)
    return rank_of_numbers(rows)


class AreForms(unittest.TestCase):
    def test_forms(self):
        for forms in tuples_of_forms("are forms"):
            self.assertIs(are_forms(forms), True)
            self.assertIs(are_forms(value=forms), True)
        self.assertIs(are_forms(((2, 1, ()),) * 200), True)

    def test_no_forms(self):
        form = (2, 1, (((1,), (0, 1), LESS),))
        for value in wrong_forms():
            with self.subTest(value=value):
                self.assertIs(are_forms((value,)), False)
                self.assertIs(are_forms((value, form)), False)
                self.assertIs(are_forms((form, value)), False)
                self.assertIs(are_forms((form, form, value, form)), False)
        for value in junk() + [(), [form], [], form, {form: form}, (form, [form]), ((form,),)]:
            with self.subTest(value=value):
                self.assertIs(are_forms(value), False)

    def test_unlike(self):
        for cell in CELLS:
            for other in CELLS:
                self.assertIs(are_forms(((*cell, ()), (*other, ()))), cell == other)
                self.assertIs(are_forms(((*cell, ()), (*cell, ()), (*other, ()))), cell == other)


class Bases(unittest.TestCase):
    def test_stairs(self):
        for forms in tuples_of_forms("stairs"):
            base = base_of(forms)
            with self.subTest(forms=forms):
                self.assertIsInstance(base, tuple)
                self.assertTrue(base == () or are_forms(base))
                self.assertTrue(all(form[:2] == forms[0][:2] for form in base))
                self.assertTrue(is_in_stairs(base))
                self.assertTrue(same_span(base, forms))
                self.assertEqual(base_of(forms=forms), base)

    def test_rank(self):
        for forms in tuples_of_forms("rank"):
            self.assertEqual(rank_of(forms), rank_of_forms(forms))
            self.assertEqual(rank_of(forms), len(base_of(forms)))
            self.assertEqual(rank_of(forms=forms), rank_of(forms))

    def test_just_one_base_however_the_forms_are_told(self):
        chance = chances("mixed")
        for forms in tuples_of_forms("just one", times=4, degree=3):
            base = base_of(forms)
            for _ in range(3):
                self.assertEqual(base_of(mixed(chance, forms)), base)
            if base:
                self.assertEqual(base_of(base), base)
                self.assertEqual(base_of(base[::-1] + base), base)

    def test_unlike_spans_have_unlike_bases(self):
        for dimension, sort in CELLS:
            chance = chances("unlike", dimension, sort)
            for _ in range(6):
                forms, others = [made_forms(chance, dimension, sort, 1, 2) for _ in range(2)]
                self.assertEqual(base_of(forms) == base_of(others), same_span(forms, others))

    def test_by_hand(self):
        first, second = (1, 0, (((), (0,), (2, 1)), ((), (1,), ONE))), (1, 0, (((), (0,), ONE), ((), (2,), (1, 3))))
        base = ((1, 0, (((), (0,), ONE), ((), (2,), (1, 3)))), (1, 0, (((), (1,), ONE), ((), (2,), (-2, 3)))))
        self.assertEqual(base_of((first, second)), base)
        self.assertEqual(base_of(((0, 0, (((), (), (-5, 7)),)),)), ((0, 0, (((), (), ONE),)),))
        self.assertEqual(rank_of(((0, 0, ()),)), 0)
        for cell in CELLS:
            self.assertEqual(base_of(((*cell, ()), (*cell, ()))), ())

    def test_many_forms(self):
        chance = chances("many")
        forms = made_forms(chance, 2, 1, 4, 200)
        self.assertEqual(base_of(forms), whole_span(2, 4, 1))
        forms = tuple(together(whole_span(3, 2, 1)[:7], [chance.randint(-5, 5) for _ in range(7)]) for _ in range(200))
        self.assertEqual(base_of(forms), whole_span(3, 2, 1)[:7])
        self.assertEqual(rank_of(forms), 7)

    def test_high_degrees_many_terms_and_large_numbers(self):
        chance = chances("high")
        pairs = all_pairs(3, 2, 12)
        self.assertGreater(len(pairs), 400)
        forms = []
        for _ in range(3):
            numbers = {pair: Fraction(chance.randint(1, 10 ** 300), 7) for pair in chance.sample(pairs, 400)}
            forms.append(form_of_numbers(3, 2, numbers))
        base = base_of(tuple(forms))
        self.assertTrue(is_in_stairs(base))
        self.assertEqual(len(base), 3)
        self.assertEqual(base_of(mixed(chance, forms)), base)
        self.assertTrue(is_within(base, forms[1]))
        self.assertIsNone(stray_of(tuple(forms), base))

    def test_unlike_large_denominators(self):
        chance = chances("denominators")
        for many, degree in ((2, 6), (12, 1)):
            forms = made_forms(chance, 2, 1, degree, many, height=10 ** 250)
            base = base_of(forms)
            self.assertTrue(is_in_stairs(base))
            self.assertTrue(same_span(base, forms))

    def test_numbers_that_remainders_do_not_tell(self):
        """Rows that are alike, or nought, but for multiples of a prime number: of any that might be reckoned with."""
        seen = set()
        for prime in (2, 3, 5, 7, 2 ** 13 - 1, 2 ** 31 - 1, 2 ** 61 - 1, 2 ** 89 - 1, 10 ** 9 + 7, 10 ** 9 + 9, 998244353):
            chance = chances("prime", prime)
            for many in (1, 2, 2, 2, 3, 3, 3, 4):
                told = (0, 0, 1, -1, 2, prime, -prime, 2 * prime, prime + 1, 1 - prime, prime * prime, Fraction(1, prime))
                forms = [form_of_numbers(2, 1, {pair: chance.choice(told) for pair in all_pairs(2, 1, 1)[:many]})
                         for _ in range(many)]
                forms.append(together(forms, [chance.choice(told[:8]) for _ in forms]))
                for own in (forms, forms[:-1], forms[1:], forms[::-1][:2]):
                    if own:
                        self.assertEqual(rank_of(tuple(own)), rank_of_forms(own))
                        seen.add((len(own), rank_of_forms(own)))
        self.assertLessEqual({(2, 1), (2, 2), (3, 2), (3, 3), (4, 3)}, seen)


class Within(unittest.TestCase):
    def test_sums_are_within(self):
        chance = chances("sums within")
        for forms in tuples_of_forms("within"):
            form = together(forms, [Fraction(chance.randint(-4, 4), chance.randint(1, 4)) for _ in forms])
            self.assertIs(is_within(forms, form), True)
            self.assertIs(is_within(form=form, forms=forms), True)
            self.assertIs(is_within(forms, (*forms[0][:2], ())), True)

    def test_by_rank(self):
        told = {True: 0, False: 0}
        for dimension, sort in CELLS:
            chance = chances("by rank", dimension, sort)
            for _ in range(12):
                forms, form = made_forms(chance, dimension, sort, 1, 3), made_form(chance, dimension, sort, 1)
                within = rank_of_forms(forms) == rank_of_forms((*forms, form))
                self.assertIs(is_within(forms, form), within)
                told[within] += 1
        self.assertGreater(min(told.values()), 10)

    def test_large(self):
        form = (1, 0, (((), (0,), (10 ** 399, 7)), ((), (1,), (1, 10 ** 399))))
        near = (1, 0, (((), (0,), (10 ** 399, 7)), ((), (1,), (1, 10 ** 399 + 1))))
        self.assertIs(is_within((form,), times_number(form, (3, 10 ** 200))), True)
        self.assertIs(is_within((form,), near), False)

    def test_lies_in_and_stray_of(self):
        told = {True: 0, False: 0}
        for dimension, sort in CELLS:
            chance = chances("lies in", dimension, sort)
            for _ in range(12):
                others = made_forms(chance, dimension, sort, 1, chance.randint(1, 5))
                forms = mixed(chance, others)
                if chance.random() < 0.6:
                    forms = forms[:2] + made_forms(chance, dimension, sort, 1, 2) + forms
                outside = [form for form in forms if rank_of_forms(others) < rank_of_forms((*others, form))]
                self.assertIs(lies_in(forms, others), not outside)
                self.assertIs(lies_in(others=others, forms=forms), not outside)
                if outside:
                    self.assertIs(stray_of(forms, others), outside[0])
                    self.assertIs(stray_of(others=others, forms=forms), outside[0])
                else:
                    self.assertIsNone(stray_of(forms, others))
                told[not outside] += 1
        self.assertGreater(min(told.values()), 10)

    def test_nought(self):
        for cell in CELLS:
            none, some = ((*cell, ()),), made_forms(chances("nought", cell), *cell, 2, 3)
            self.assertIs(lies_in(none, none), True)
            self.assertIs(lies_in(none, some), True)
            self.assertIs(lies_in(some, none), rank_of_forms(some) == 0)
            self.assertIs(lies_in(whole_span(*cell[:1], 1, cell[1]), none), False)


class Common(unittest.TestCase):
    def test_common(self):
        found = 0
        for dimension, sort in CELLS:
            chance = chances("common", dimension, sort)
            for _ in range(10):
                shared = made_forms(chance, dimension, sort, 2, chance.randint(0, 2))
                forms = mixed(chance, shared + made_forms(chance, dimension, sort, 2, 2))
                others = mixed(chance, made_forms(chance, dimension, sort, 2, 2) + shared)
                both = common(forms, others)
                many = rank_of_forms(forms) + rank_of_forms(others) - rank_of_forms(forms + others)
                self.assertEqual(len(both), many)
                self.assertTrue(is_in_stairs(both))
                self.assertTrue(all(form[:2] == (dimension, sort) for form in both))
                self.assertTrue(same_span(forms, forms + both) and same_span(others, others + both))
                self.assertEqual(common(others=others, forms=forms), both)
                self.assertEqual(common(others, forms), both)
                found += many
        self.assertGreater(found, 50)

    def test_edges(self):
        for cell in CELLS:
            none, some = ((*cell, ()),), made_forms(chances("edges", cell), *cell, 2, 3)
            self.assertEqual(common(none, some), ())
            self.assertEqual(common(some, none), ())
            self.assertEqual(common(none, none), ())
            self.assertEqual(common(some, some), base_of(some))
        first, second = (1, 0, (((), (0,), ONE),)), (1, 0, (((), (1,), ONE),))
        self.assertEqual(common((first,), (second,)), ())
        self.assertEqual(common((first, second), (plus(first, second),)), (plus(first, second),))


class RisesAndClosedForms(unittest.TestCase):
    BELOW = [(dimension, sort) for dimension, sort in CELLS if sort < dimension]

    def test_rises_of(self):
        for forms in tuples_of_forms("rises", cells=self.BELOW):
            rises = rises_of(forms)
            self.assertTrue(is_in_stairs(rises))
            self.assertTrue(all(form[:2] == (forms[0][0], forms[0][1] + 1) for form in rises))
            self.assertTrue(same_span(rises, tuple(rise(form) for form in forms)))
            self.assertEqual(rises_of(forms=forms), rises)

    def test_closed_of(self):
        for forms in tuples_of_forms("closed", cells=self.BELOW, times=10):
            closed = closed_of(forms)
            self.assertTrue(is_in_stairs(closed))
            self.assertTrue(all(form[:2] == forms[0][:2] for form in closed))
            self.assertTrue(all(rise(form)[2] == () for form in closed))
            self.assertTrue(same_span(forms, forms + closed))
            self.assertEqual(len(closed), rank_of_forms(forms) - rank_of_forms([rise(form) for form in forms]))
            self.assertEqual(closed_of(forms=forms), closed)

    def test_closed_sums_are_found(self):
        first = (2, 1, (((1,), (0, 1), ONE),))
        second = (2, 1, (((2,), (1, 0), (1, 2)),))
        self.assertEqual(closed_of((first, second)), ((2, 1, (((1,), (0, 1), ONE), ((2,), (1, 0), ONE))),))
        self.assertEqual(closed_of((first,)), ())

    def test_highest_sort_and_sort_0(self):
        for forms in tuples_of_forms("highest", cells=[(dimension, dimension) for dimension in range(4)]):
            self.assertEqual(closed_of(forms), base_of(forms))
        for dimension in (1, 2, 3):
            number_alone = (dimension, 0, (((), (0,) * dimension, ONE),))
            self.assertEqual(closed_of(whole_span(dimension, 3, 0)), (number_alone,))

    def test_nought(self):
        for dimension, sort in CELLS:
            self.assertEqual(closed_of(((dimension, sort, ()),)), ())
            if sort < dimension:
                self.assertEqual(rises_of(((dimension, sort, ()), (dimension, sort, ()))), ())

    def test_large(self):
        lifted = (3, 1, (((1,), (0, 12, 0), (10 ** 399, 3)), ((3,), (4, 4, 4), (-1, 10 ** 399))))
        self.assertEqual(closed_of((rise(lifted),)), base_of((rise(lifted),)))
        self.assertEqual(closed_of((lifted,)), ())
        self.assertEqual(rises_of((lifted,)), base_of((rise(lifted),)))


class Traces(unittest.TestCase):
    def test_traces_of(self):
        for dimension, sort in CELLS:
            for forms in tuples_of_forms("traces", times=3, cells=[(dimension, sort)]):
                for face in faces_of(dimension, sort):
                    found = traces_of(forms, face)
                    self.assertTrue(is_in_stairs(found))
                    self.assertTrue(all(form[:2] == (len(face) - 1, sort) for form in found))
                    self.assertTrue(same_span(found, tuple(trace(form, face) for form in forms)))
                    self.assertEqual(traces_of(face=face, forms=forms), found)

    def test_nought(self):
        for dimension, sort in CELLS:
            for face in faces_of(dimension, sort):
                self.assertEqual(traces_of(((dimension, sort, ()),), face), ())


class Rim(unittest.TestCase):
    def sides(self, dimension):
        """Without one corner each."""
        corners = tuple(range(dimension + 1))
        return [corners[:at] + corners[at + 1:] for at in corners]

    def bubbles(self, chance, dimension, sort):
        """Some forms times the product of all corners' own coordinates."""
        axes = range(1, dimension + 1)
        numbers = {((), (1,) * dimension): Fraction(1)}
        for axis in axes:
            numbers[((), tuple(1 + (at == axis) for at in axes))] = Fraction(-1)
        bubble = form_of_numbers(dimension, 0, numbers)
        return tuple(product(bubble, made_form(chance, dimension, sort, 1)) for _ in range(2))

    def test_noughts_on_rim(self):
        found = 0
        for dimension, sort in CELLS:
            if sort < dimension:
                chance = chances("rim", dimension, sort)
                for _ in range(8):
                    bubbles = self.bubbles(chance, dimension, sort)
                    forms = mixed(chance, bubbles + made_forms(chance, dimension, sort, 2, chance.randint(0, 4)))
                    noughts = noughts_on_rim(forms)
                    self.assertTrue(is_in_stairs(noughts))
                    self.assertTrue(all(form[:2] == (dimension, sort) for form in noughts))
                    self.assertTrue(same_span(forms, forms + noughts))
                    for side in self.sides(dimension):
                        self.assertTrue(all(trace(form, side)[2] == () for form in noughts))
                    images = rank_with(forms, lambda form: [trace(form, side) for side in self.sides(dimension)])
                    self.assertEqual(len(noughts), rank_of_forms(forms) - images)
                    self.assertEqual(noughts_on_rim(forms=forms), noughts)
                    found += len(noughts)
        self.assertGreater(found, 40)

    def test_each_side_counts(self):
        for dimension in (1, 2, 3):
            for left in range(dimension + 1):
                form = (dimension, 0, (((), (0,) * dimension, ONE),))
                for at in range(dimension + 1):
                    if at != left:
                        form = product(form, self.coordinate(dimension, at))
                self.assertEqual(noughts_on_rim((form,)), ())
                full = product(form, self.coordinate(dimension, left))
                self.assertEqual(noughts_on_rim((full, form)), base_of((full,)))

    def coordinate(self, dimension, at):
        """The polynomial that is 1 at a corner and 0 on the side without it."""
        units = [tuple(int(axis == each) for axis in range(dimension)) for each in range(dimension)]
        if at > 0:
            return (dimension, 0, (((), units[at - 1], ONE),))
        return (dimension, 0, (((), (0,) * dimension, ONE), *(((), unit, LESS) for unit in reversed(units))))

    def test_highest_sort(self):
        for forms in tuples_of_forms("rim of all", cells=[(dimension, dimension) for dimension in range(4)]):
            self.assertEqual(noughts_on_rim(forms), base_of(forms))
        self.assertEqual(noughts_on_rim(((0, 0, (((), (), (3, 2)),)),)), ((0, 0, (((), (), ONE),)),))

    def test_nought(self):
        for cell in CELLS:
            self.assertEqual(noughts_on_rim(((*cell, ()),)), ())


class Exact(unittest.TestCase):
    STEPS = [(dimension, sort) for dimension, sort in CELLS if sort < dimension]

    def test_by_rank(self):
        told = {True: 0, False: 0}
        for dimension, sort in self.STEPS:
            chance = chances("exact", dimension, sort)
            for _ in range(16):
                forms = made_forms(chance, dimension, sort, 2, chance.randint(1, 4))
                rises = tuple(rise(form) for form in forms)
                others = rises[:chance.randint(1, 3)] + made_forms(chance, dimension, sort + 1, 1, chance.randint(0, 2))
                self.check(forms, others, told)
        self.assertGreater(min(told.values()), 10)

    def check(self, forms, others, told):
        """By which of the closed forms are sums of rises."""
        rises, closed = tuple(rise(form) for form in forms), closed_of(others)
        exact = rank_of_forms(rises) == rank_of_forms(rises + closed)
        self.assertIs(is_exact(forms, others), exact)
        self.assertIs(is_exact(others=others, forms=forms), exact)
        stray = closed_stray(forms, others)
        self.assertEqual(closed_stray(others=others, forms=forms), stray)
        if exact:
            self.assertIsNone(stray)
        else:
            self.assertEqual(stray[:2], others[0][:2])
            self.assertTrue(stray[0] == stray[1] or rise(stray)[2] == ())
            self.assertEqual(rank_of_forms(others), rank_of_forms((*others, stray)))
            self.assertEqual(rank_of_forms(rises) + 1, rank_of_forms((*rises, stray)))
        told[exact] += 1

    def test_nought(self):
        for dimension, sort in self.STEPS:
            none, rises = ((dimension, sort, ()),), ((dimension, sort + 1, ()),)
            self.assertIs(is_exact(none, rises), True)
            self.assertIs(is_exact(whole_span(dimension, 2, sort), rises), True)
            self.assertIs(is_exact(none, whole_span(dimension, 0, sort + 1)), False)

    def test_lowering_makes_exact(self):
        for dimension, sort in self.STEPS:
            chance = chances("lowering", dimension, sort)
            for _ in range(4):
                others = tuple(rise(form) for form in made_forms(chance, dimension, sort, 3, 3))
                parts = [self.part(form, total) for form in others for total in range(4)]
                self.assertIs(is_exact(tuple(lowered(part) for part in parts), others), True)

    def part(self, form, total):
        """The terms whose powers have this sum."""
        return (form[0], form[1], tuple(term for term in form[2] if sum(term[1]) == total))

    def test_rises_outside_of_the_second_span_do_not_matter(self):
        forms, others = whole_span(2, 4, 0), whole_span(2, 1, 1)
        self.assertIs(is_exact(forms, others), True)

    def test_closed_sums_count_not_only_closed_members(self):
        first, second = (2, 1, (((1,), (0, 1), ONE),)), (2, 1, (((2,), (1, 0), ONE),))
        nothing = ((2, 0, (((), (0, 0), ONE),)),)
        self.assertIs(is_exact(nothing, (first,)), True)
        self.assertIs(is_exact(nothing, (first, second)), False)
        stray = closed_stray(nothing, (first, second))
        self.assertEqual(base_of((stray,)), (plus(first, second),))


class SumsOfProducts(unittest.TestCase):
    def test_a_form_is_nought_if_its_products_with_all_have_the_sum_0(self):
        """Told here of free forms of the whole span and themselves, lest sums and products go apart."""
        for dimension in range(4):
            forms, others = whole_span(dimension, 2, 0), whole_span(dimension, 2, dimension)
            rows = [{at: Fraction(*sum_of(product(form, other))) for at, other in enumerate(others)} for form in forms]
            self.assertEqual(rank_of_numbers(rows), len(forms))


if __name__ == "__main__":
    unittest.main()
