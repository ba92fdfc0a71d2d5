"""What the tests of measures share: another way to weigh forms, and made weights, elements and wrong ones."""

from fractions import Fraction
from functools import lru_cache
from itertools import combinations, product
from math import factorial

from cellrises.elements import told_element
from cellrises.forms import degree_of, plus, times_number
from tests.helpers import (
    CELLS, bent, corner, junk, led_arrow, led_place, made_form, number, rank_of_numbers, sign_of, value_at, wrong_forms,
)

ONE, NIL = (1, 1), (0, 1)
DOT = (0, 0, (((), (), ONE),))
BIG = (10 ** 299 + 7, 10 ** 300 + 9)
TOLD = [("whole", dimension, degree, sort) for dimension in (1, 2, 3) for sort in range(dimension + 1) for degree in range(5)
        if degree > 0 or sort == dimension]
TOLD += [("trimmed", *told[1:]) for told in TOLD if told[2] > 0]


def small(told):
    """Whether a told element is small enough to be looked at in all ways."""
    return told[2] <= (4, 4, 3, 2)[told[1]]


SMALL = [told for told in TOLD if small(told)]
LIGHT_TOLD = [told for told in SMALL if told[2] <= (4, 3, 3, 1)[told[1]]]


@lru_cache(maxsize=None)
def places_and_shares(dimension, half):
    """Places of a cell, and with which numbers values there add up to the sum of a polynomial of a degree to 2 half + 1.

    (A. Grundmann, H. M. Moeller: Invariant integration formulas for the n-simplex, 1978.)
    """
    most, found = 2 * half + 1, []
    for step in range(half + 1):
        below = most + dimension - 2 * step
        share = Fraction((-1) ** step * below ** most, 4 ** half * factorial(step) * factorial(most + dimension - step))
        for parts in product(range(half - step + 1), repeat=dimension):
            if sum(parts) <= half - step:
                found.append((tuple(Fraction(2 * part + 1, below) for part in parts), share))
    return found


@lru_cache(maxsize=20000)
def values(form, face, half):
    """What a form tells at led places of a face of as many led arrows as its sort, for each choice of these."""
    corners, dimension, found = [corner(form[0], each) for each in face], len(face) - 1, []
    arrows = [led_arrow(corners, corner(dimension, each)) for each in range(1, dimension + 1)]
    for place, _ in places_and_shares(dimension, half):
        where = led_place(corners, place)
        found.append([value_at(form, where, [arrows[at] for at in chosen]) for chosen in combinations(range(dimension), form[1])])
    return found


def reckoned(form, weight):
    """The measure of a form by a weight, from its values at places alone."""
    face, test = weight
    half = ((degree_of(form) or 0) + (degree_of(test) or 0) + 1) // 2
    signs = []
    for chosen in combinations(range(test[0]), form[1]):
        rest = tuple(at for at in range(test[0]) if at not in chosen)
        signs.append((sign_of(chosen + rest), list(combinations(range(test[0]), test[1])).index(rest)))
    total = Fraction(0)
    shares = [share for _, share in places_and_shares(test[0], half)]
    for share, own, others in zip(shares, values(form, face, half), values(test, tuple(range(test[0] + 1)), half)):
        total += share * sum(sign * worth * others[at] for worth, (sign, at) in zip(own, signs))
    return total


def reckoned_rows(forms, weights):
    """The table, a dict of numbers for each weight."""
    return [{at: reckoned(form, weight) for at, form in enumerate(forms)} for weight in weights]


def faces(dimension, least):
    """All faces of a cell of dimensions from `least` on, in order."""
    return [face for size in range(least + 1, dimension + 2) for face in combinations(range(dimension + 1), size)]


def made_weight(chance, dimension, sort, degree=2, many=3):
    """Some weight, now and then with nought as its test."""
    face = chance.choice(faces(dimension, sort))
    return (face, made_form(chance, len(face) - 1, len(face) - 1 - sort, degree, many))


def made_weights(chance, dimension, sort, many, degree=2):
    """A tuple of some weights."""
    return tuple(made_weight(chance, dimension, sort, degree) for _ in range(many))


def mixed(chance, forms, height=3):
    """As many forms with the same span, each of which has one of the forms and some of those ahead."""
    found = []
    for at, form in enumerate(forms):
        own = times_number(form, (chance.choice((-3, -2, -1, 1, 2, 5)), chance.choice((1, 7))))
        for other in forms[:at]:
            if chance.random() < 0.4:
                own = plus(own, times_number(other, (chance.choice((-1, 1)) * chance.randint(1, height), 1)))
        found.append(own)
    chance.shuffle(found)
    return tuple(found)


def mixed_element(chance, element):
    """An element with the same span of forms, and for each dimension the same span of tests."""
    return (mixed(chance, element[0]), tuple(mixed(chance, tests) for tests in element[1]))


def changed(element, dimension, tests):
    """An element with other tests for a dimension."""
    return (element[0], element[1][:dimension] + (tests,) + element[1][dimension + 1:])


def inner_element(kind, dimension, degree, sort):
    """An element of the told forms that are tested on the cell alone: with all forms whose products they settle."""
    forms = told_element(kind, dimension, degree, sort)[0]
    return (forms, ((),) * dimension + (tuple(stars(form) for form in forms),))


def stars(form):
    """The form whose product with this one is the sum of the squares of its polynomials: its sum is above 0."""
    dimension, found = form[0], []
    for axes, powers, fraction in form[2]:
        rest = tuple(axis for axis in range(1, dimension + 1) if axis not in axes)
        found.append((rest, powers, (fraction[0] * sign_of(axes + rest), fraction[1])))
    return (dimension, dimension - form[1], tuple(sorted(found)))


def settles_by_rank(forms, weights):
    """Whether weights settle forms, by the rank of the table."""
    return len(forms) == len(weights) == rank_of_numbers(reckoned_rows(forms, weights))


def adds_up_to_nought(forms, weights, numbers):
    """Whether told numbers times the measures add up to 0 for all forms."""
    rows = reckoned_rows(forms, weights)
    return all(sum(number(factor) * row[at] for factor, row in zip(numbers, rows)) == 0 for at in range(len(forms)))


def wrong_weights(dimension, sort):
    """Values that are no weights for the sort of a cell of the dimension."""
    face = tuple(range(dimension + 1))
    test = (dimension, dimension - sort, ((tuple(range(1, dimension - sort + 1)), (1,) * dimension, (-2, 3)),))
    wrong = junk() + bent((face, test)) + [(), (face,), (test,), (test, face), (face, test, test), (face, test, ())]
    wrong += [(each, test) for each in ((), face + (dimension + 1,), face[::-1], face + face, (-1,) + face[1:], (9,))]
    wrong += [(face, each) for each in wrong_forms()]
    wrong += [(face, (*cell, ())) for cell in CELLS if cell != test[:2]]
    wrong += [(each, (len(each) - 1, 0, ())) for each in faces(dimension, 0) if len(each) - 1 < sort]
    wrong += [(each, (dimension, dimension - sort, ())) for each in faces(dimension, 0) if each != face]
    return [each for each in wrong if each != (face, test)]


def wrong_elements():
    """Values that are no elements."""
    right = told_element("trimmed", 2, 2, 1)
    forms, tests = right
    wrong = junk() + bent(told_element("whole", 1, 1, 0)) + bent((forms[:2], ((), tests[1][:1], tests[2][:1])))
    wrong += [(), (forms,), (tests,), (tests, forms), (forms, tests, ()), (forms, tests, tests), forms, tests]
    wrong += [((), tests), (((2, 1, ()),), tests), ((*forms, (2, 1, ())), tests), (((2, 1, ()), *forms), tests)]
    wrong += [((*forms, forms[0]), tests), ((*forms, plus(forms[1], forms[2])), tests), ((forms[0], forms[0]), tests)]
    wrong += [((forms[0], times_number(forms[0], (-2, 7))), tests), ((*forms, (2, 0, ())), tests), ((*forms, (1, 1, ())), tests)]
    wrong += [((*forms, each), tests) for each in wrong_forms()] + [((each,), tests) for each in wrong_forms()]
    wrong += [((DOT,), ((DOT,),)), ((DOT,), ((),)), ((DOT,), ((DOT,), ()))]
    wrong += [(forms, ()), (forms, tests[:2]), (forms, tests[1:]), (forms, (*tests, ())), (forms, ((), *tests))]
    wrong += [(forms, (tests[1], tests[0], tests[2])), (forms, (tests[0], tests[2], tests[1])), (forms, ((), (), DOT))]
    wrong += [(forms, ((each,), *tests[1:])) for each in (DOT, (0, 0, ()), (1, 0, ()), (2, 1, ()), ())]
    wrong += [(forms, ((), (each,), ())) for each in [(0, 0, ()), (1, 1, ()), (2, 0, ()), (2, 1, ()), *wrong_forms()]]
    wrong += [(forms, ((), (), (*tests[2], each))) for each in [(1, 0, ()), (2, 0, ()), (2, 2, ()), *wrong_forms()]]
    return wrong
