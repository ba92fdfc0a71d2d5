"""What the tests of the checker and of certificates share: claims with right papers, and what the words tell of them."""

from cellrises.arithmetic import is_fraction
from cellrises.chains import border, holes, is_round
from cellrises.closed import is_closed
from cellrises.elements import is_element, settles_cell, told_element
from cellrises.errors import CellError
from cellrises.forms import is_form, plus, product, rise, sum_of, times_number
from cellrises.joined import is_held, is_joined, numbers_of, rises, sum_along
from cellrises.led import faces_of, is_face, trace
from cellrises.measured import keeps_rises, measured
from cellrises.measures import is_weight, settles
from cellrises.meetings import joins, joins_against
from cellrises.partings import common_face
from cellrises.spans import are_forms, is_exact, is_within, lies_in, trimmed_span
from tests.helpers import number, together
from tests.lands import (
    BAND, HOLLOW, LINE, RING, SQUARE, as_row, borders_by_hand, cocycles, free_row, lot_by_hand, whitney,
)
from tests.weighing import BIG, DOT, NIL, ONE, changed, reckoned

LESS, HALF = (-1, 1), (1, 2)
AHEAD, ASIDE = (2, 0, (((), (1, 0), ONE),)), (2, 1, (((2,), (0, 0), ONE),))
FLAT = (2, 2, (((1, 2), (0, 0), ONE),))
TURN = (2, 1, (((1,), (0, 1), LESS), ((2,), (1, 0), ONE)))
PLAIN, RISING = (1, 0, (((), (0,), ONE),)), (1, 0, (((), (1,), ONE),))
ALONG, STEP = (1, 1, (((1,), (0,), ONE),)), (1, 1, (((1,), (1,), ONE),))
CUBE = (1, 0, (((), (3,), ONE),))
HAT, LOOSE, LINED = ((PLAIN, RISING), ((DOT,), ())), ((PLAIN, RISING), ((), (ALONG, STEP))), ((ALONG,), ((), (PLAIN,)))
ENDS, MEAN = (((0,), DOT), ((1,), DOT)), ((0, 1), ALONG)
ABOUT = (((0, 1), ONE), ((0, 2), LESS), ((1, 2), ONE))
TWICE = (1, 1, (((1,), (0,), (2, 1)),))
FACE = (((0, 1, 2), ONE),)
TRIANGLE = told_element("trimmed", 2, 1, 1)
# Claims of a name exclude those of the others of its row.
ROWS = [("rise", "no rise"), ("within", "without"), ("exact", "stray"), ("settles", "misses"), ("settles", "ties"),
        ("joins", "jumps"), ("joins against", "jumps against"), ("keeps rises", "parts rises"), ("round", "no round"),
        ("bounds", "does not bound"), ("joined", "not joined"), ("risen", "not risen")]
WITHOUT_PAPER = ("no rise", "without", "exact", "settles", "joins", "joins against", "keeps rises", "round", "no round", "holes",
                 "joined")


def claims_on_forms():
    """Right claims on forms, spans and weights, with papers."""
    hat, sides = (PLAIN, RISING), tuple((side, PLAIN) for side in ((0, 1), (0, 2), (1, 2)))
    return [
        (("rise", ASIDE), (2, 0, (((), (0, 1), ONE),))),
        (("rise", ASIDE), (2, 0, (((), (0, 0), BIG), ((), (0, 1), ONE)))),
        (("rise", FLAT), times_number(TURN, HALF)),
        (("rise", (1, 1, ())), (1, 0, ())),
        (("rise", (1, 1, ())), (1, 0, (((), (0,), (5, 3)),))),
        (("no rise", TURN), ()),
        (("no rise", (3, 2, (((1, 2), (0, 0, 1), BIG),))), ()),
        (("within", (TURN, ASIDE), TURN), (ONE, NIL)),
        (("within", (TURN, ASIDE, TURN), plus(TURN, ASIDE)), (HALF, ONE, HALF)),
        (("within", (TURN, (2, 1, ())), (2, 1, ())), (NIL, BIG)),
        (("without", (TURN, ASIDE), (2, 1, (((1,), (0, 0), ONE),))), ()),
        (("without", ((1, 0, ()),), PLAIN), ()),
        (("exact", (AHEAD, (2, 0, (((), (0, 1), ONE),))), (ASIDE,)), ()),
        (("exact", trimmed_span(1, 1, 0), (ALONG, TWICE)), ()),
        (("stray", (AHEAD,), (ASIDE,)), ASIDE),
        (("stray", (AHEAD,), (ASIDE, TURN)), times_number(ASIDE, BIG)),
        (("stray", (RISING,), (ALONG, STEP)), plus(ALONG, STEP)),
        (("settles", hat, ENDS), ()),
        (("settles", trimmed_span(2, 1, 1), sides), ()),
        (("misses", hat, (MEAN,)), plus(RISING, times_number(PLAIN, (-1, 2)))),
        (("misses", (PLAIN, RISING, CUBE), ENDS), plus(RISING, times_number(CUBE, LESS))),
        (("misses", (RISING, RISING), (((0,), DOT),)), times_number(RISING, BIG)),
        (("ties", (PLAIN,), ENDS), (ONE, LESS)),
        (("ties", hat, (*ENDS, MEAN)), (ONE, ONE, (-2, 1))),
        (("ties", (RISING,), (((0,), DOT), ((1,), (0, 0, ())))), (BIG, NIL)),
    ]


def claims_on_elements():
    """Right claims on elements, with papers."""
    pair = ((0,), (1,), PLAIN, RISING)
    other = ((0,), (0,), RISING, times_number(PLAIN, BIG))
    without = changed(TRIANGLE, 1, ())
    side = (2, 1, (((1,), (0, 0), ONE),))
    return [
        (("joins", HAT), ()),
        (("joins", LINED), ()),
        (("joins", TRIANGLE), ()),
        (("jumps", LOOSE), (*pair[:3], times_number(PLAIN, HALF))),
        (("jumps", LOOSE), other),
        (("jumps", without), ((0, 1), (1, 2), side, (2, 1, ()))),
        (("joins against", HAT, DOT), ()),
        (("joins against", LOOSE, (0, 0, ())), ()),
        (("joins against", TRIANGLE, (1, 0, (((), (0,), ONE), ((), (3,), BIG)))), ()),
        (("jumps against", LOOSE, DOT), (*pair[:3], times_number(PLAIN, HALF))),
        (("jumps against", without, RISING), ((0, 1), (0, 1), side, (2, 1, ()))),
        (("keeps rises", HAT, LINED), ()),
        (("keeps rises", TRIANGLE, told_element("whole", 2, 0, 2)), ()),
        (("parts rises", LOOSE, LINED), CUBE),
        (("parts rises", LOOSE, LINED), times_number(CUBE, BIG)),
        (("parts rises", HAT, ((plus(ALONG, STEP),), ((), (PLAIN,)))), RISING),
    ]


def claims_on_lands():
    """Right claims on partings, with papers."""
    ends, cell = ((0,), (1,)), (((0, 1), ONE),)
    halves = (((0, 2), HALF), ((1, 2), (-1, 2)))
    rim = ((0, 1), (0, 2), (1, 3), (2, 3))
    flat = ((2, 0, (((), (0, 0), ONE),)), (2, 0, (((), (0, 0), (2, 1)),)))
    return [
        (("round", RING, (), ABOUT), ()),
        (("round", LINE, ends, cell), ()),
        (("round", SQUARE, ((0, 1), (2,)), (((0,), BIG), ((2,), ONE))), ()),
        (("round", SQUARE, (), ()), ()),
        (("no round", LINE, ((1,), (1,)), cell), ()),
        (("no round", SQUARE, (), (((0, 1, 2), ONE), ((1, 2, 3), ONE))), ()),
        (("bounds", SQUARE, (), ABOUT), FACE),
        (("bounds", SQUARE, ((0, 1), (1, 3)), (((0, 1), BIG), ((0, 2), LESS), ((1, 2), ONE))), FACE),
        (("bounds", LINE, ((0,),), (((0,), ONE),)), ()),
        (("bounds", RING, (), ()), ABOUT),
        (("bounds", RING, (), ()), ()),
        (("bounds", SQUARE, ((0, 2, 1), (3,))[1:], ()), (((1, 2), ONE), ((1, 3), LESS), ((2, 3), ONE))),
        (("bounds", HOLLOW, ((0, 1), (0, 2)), (((0, 1), ONE),)), (((0, 1, 2), ONE), ((0, 1, 3), LESS), ((0, 2, 3), ONE), ((1, 2, 3), LESS))),
        (("does not bound", RING, (), ABOUT), cell),
        (("does not bound", RING, (), ABOUT), (((0, 1), HALF), ((0, 2), (-3, 1)))),
        (("does not bound", RING, ((0, 1),), ABOUT), halves),
        (("does not bound", LINE, ends, cell), (((0, 1), BIG),)),
        (("does not bound", SQUARE, ((3,),)[1:], (((0,), ONE),)), (((0,), ONE), ((1,), ONE), ((2,), ONE), ((3,), ONE))),
        (("holes", RING, (), 1, 1), ()),
        (("holes", SQUARE, rim, 2, 1), ()),
        (("holes", SQUARE, rim, 1, 0), ()),
        (("joined", RING, (ALONG, ALONG, ALONG)), ()),
        (("joined", SQUARE, (ASIDE, (2, 1, (((1,), (0, 0), ONE), ((2,), (0, 0), ONE))))), ()),
        (("not joined", SQUARE, flat), (0, 1)),
        (("not joined", SQUARE, flat), (1, 0)),
        (("not joined", (1, ((0, 1), (1, 2), (1, 3))), (PLAIN, RISING, PLAIN)), (2, 1)),
        *claims_on_rises(),
    ]


def claims_on_rises():
    """Right claims on potentials, with papers."""
    first = (1, 0, (((), (0,), BIG), ((), (1,), ONE)))
    third = (1, 0, (((), (0,), (BIG[0] + BIG[1], BIG[1])), ((), (1,), ONE)))
    second = (1, 0, (((), (0,), BIG), ((), (1,), (2, 1))))
    side = (1, 0, (((), (1,), ONE),))
    band = next(cycle for cycle in cocycles(BAND, (), 1) if not is_risen_row(BAND, cycle))
    barred = (((0, 1), ONE), ((0, 4), LESS), ((1, 2), ONE), ((2, 3), ONE), ((3, 4), ONE))
    return [
        (("risen", RING, (), "whole", 0, (ALONG, TWICE, ALONG)), (first, second, third)),
        (("risen", LINE, ((0,),), "trimmed", 1, (ALONG,)), (side,)),
        (("risen", LINE, ((0, 1),), "whole", 2, ((1, 1, ()),)), ((1, 0, ()),)),
        (("not risen", RING, (), "whole", 0, (ALONG, ALONG, ALONG)), ABOUT),
        (("not risen", LINE, ((0,), (1,)), "trimmed", 1, (ALONG,)), (((0, 1), BIG),)),
        (("not risen", BAND, (), "trimmed", 1, whitney(BAND, 1, band)), barred),
    ]


def is_risen_row(parting, row):
    """Whether numbers by edges add up to 0 along the rim of the band."""
    return sum(worth * row.get(face, 0) for face, worth in {(0, 1): 1, (0, 4): -1, (1, 2): 1, (2, 3): 1, (3, 4): 1}.items()) == 0


def all_claims():
    """All right claims with papers."""
    return claims_on_forms() + claims_on_elements() + claims_on_lands()


def is_so(claim, paper):
    """What the words tell of a claim and a paper."""
    try:
        if type(claim) is not tuple or len(claim) < 2 or type(claim[0]) is not str or claim[0] not in TRUTHS:
            return False
        return len(claim) - 1 == PARTS.get(claim[0], 2) and TRUTHS[claim[0]](claim[1:], paper)
    except CellError:
        return False


def nothing(paper):
    """Whether a paper is ()."""
    return type(paper) is tuple and paper == ()


def fractions_for(paper, many):
    """Whether a paper is a tuple of so many fractions."""
    return type(paper) is tuple and len(paper) == many and all(is_fraction(each) for each in paper)


def rise_is(parts, paper):
    """Of `rise` and `no rise`."""
    (form,) = parts
    return is_form(form) and form[1] > 0 and is_form(paper) and paper[:2] == (form[0], form[1] - 1) and rise(paper) == form


def rise_is_not(parts, paper):
    """Of `no rise`."""
    (form,) = parts
    return nothing(paper) and is_form(form) and form[1] > 0 and not is_closed(form)


def within_is(parts, paper):
    """Of `within`."""
    forms, form = parts
    return are_forms(forms) and is_form(form) and form[:2] == forms[0][:2] and fractions_for(paper, len(forms)) \
        and together((*forms, form), [*map(number, paper), -1])[2] == ()


def stray_is(parts, paper):
    """Of `stray`."""
    forms, others = parts
    return are_forms(forms) and are_forms(others) and (forms[0][0], forms[0][1] + 1) == others[0][:2] and is_form(paper) \
        and paper[:2] == others[0][:2] and is_closed(paper) and lies_in((paper,), others) \
        and not lies_in((paper,), tuple(map(rise, forms)))


def are_weights(forms, weights):
    """Whether forms and weights go together."""
    return are_forms(forms) and type(weights) is tuple and len(weights) > 0 and all(is_weight(*forms[0][:2], each) for each in weights)


def missed_is(parts, paper):
    """Of `misses`."""
    forms, weights = parts
    return are_weights(forms, weights) and is_form(paper) and paper[:2] == forms[0][:2] and paper[2] != () \
        and is_within(forms, paper) and not any(reckoned(paper, weight) for weight in weights)


def tied_is(parts, paper):
    """Of `ties`."""
    forms, weights = parts
    return are_weights(forms, weights) and fractions_for(paper, len(weights)) and any(each[0] for each in paper) and not any(
        sum(number(factor) * reckoned(form, weight) for factor, weight in zip(paper, weights)) for form in forms)


def jump_of(element, paper):
    """The difference of traces of a paper with all measures 0; None."""
    if not (type(paper) is tuple and len(paper) == 4):
        return None
    face, other, first, second = paper
    dimension, sort = element[0][0][:2]
    if not (is_face(dimension, face) and is_face(dimension, other) and len(face) == len(other) and sort < len(face) <= dimension):
        return None
    if not (is_within(element[0], first) and is_within(element[0], second)):
        return None
    jump = plus(trace(first, face), times_number(trace(second, other), LESS))
    weights = [(part, test) for part in faces_of(len(face) - 1, 0) for test in element[1][len(part) - 1]]
    return jump if not any(reckoned(jump, weight) for weight in weights) else None


def jumps_is(parts, paper):
    """Of `jumps`."""
    (element,) = parts
    jump = jump_of(element, paper) if is_element(element) else None
    return jump is not None and jump[2] != ()


def jumps_against_is(parts, paper):
    """Of `jumps against`."""
    element, test = parts
    if not joins_against(element, test):
        jump = jump_of(element, paper)
        return jump is not None and jump[0] == test[0] and sum_of(product(jump, test)) != NIL
    return False


def parted_is(parts, paper):
    """Of `parts rises`."""
    element, other = parts
    return not keeps_rises(element, other) and settles_cell(element) and rise(measured(element, paper)) != measured(other, rise(paper))


def bounds_is(parts, paper):
    """Of `bounds`."""
    parting, held, chain = parts
    is_round(parting, held, chain)
    size = len(paper[0][0]) if border(parting, paper) is not None and paper else None
    if size is not None and (size < 2 or chain and size != len(chain[0][0]) + 1):
        return False
    left, own = as_row(border(parting, paper)), as_row(chain)
    rest = {face: left.get(face, 0) - own.get(face, 0) for face in {**left, **own}}
    return free_row(rest, lot_by_hand(held)) == {}


def bounds_not(parts, paper):
    """Of `does not bound`."""
    parting, held, chain = parts
    is_round(parting, held, chain)
    border(parting, paper)
    lot, row = lot_by_hand(held), as_row(paper)
    if not chain or not paper or len(chain[0][0]) != len(paper[0][0]) or any(face in lot for face in row):
        return False
    rows = borders_by_hand(parting, lot, len(chain[0][0])) if len(chain[0][0]) <= parting[0] else []
    if any(sum(worth * row.get(face, 0) for face, worth in each.items()) for each in rows):
        return False
    return sum(worth * row.get(face, 0) for face, worth in as_row(chain).items()) != 0


def holes_are(parts, paper):
    """Of `holes`."""
    parting, held, dimension, many = parts
    return nothing(paper) and type(many) is int and holes(parting, held, dimension) == many


def joined_not(parts, paper):
    """Of `not joined`."""
    parting, joined = parts
    if is_joined(parting, joined) or not (type(paper) is tuple and len(paper) == 2 and {*map(type, paper)} == {int}):
        return False
    face = common_face(parting, *paper)
    if len(face) <= joined[0][1]:
        return False
    first, second = [trace(joined[at], tuple(parting[1][at].index(each) for each in face)) for at in paper]
    return first != second


def may_be_risen(parting, held, kind, degree, joined):
    """Whether cell forms are closed, joined, held and of a kind, of a sort from 1 on."""
    numbers_of(parting, kind, degree, joined)
    return joined[0][1] > 0 and is_held(parting, held, joined) and all(map(is_closed, joined))


def risen_is(parts, paper):
    """Of `risen`."""
    parting, held, kind, degree, joined = parts
    if not may_be_risen(parting, held, kind, degree, joined):
        return False
    if not is_joined(parting, paper) or paper[0][1] + 1 != joined[0][1] or not is_held(parting, held, paper):
        return False
    span = trimmed_span(parting[0], degree + (kind == "whole"), paper[0][1])
    return all(is_within(span, form) for form in paper) and rises(parting, paper) == joined


def risen_not(parts, paper):
    """Of `not risen`."""
    parting, held, kind, degree, joined = parts
    return may_be_risen(parting, held, kind, degree, joined) and is_round(parting, held, paper) \
        and sum_along(parting, joined, paper) != NIL


TRUTHS = {
    "rise": rise_is, "no rise": rise_is_not, "within": within_is,
    "without": lambda parts, paper: nothing(paper) and not is_within(*parts),
    "exact": lambda parts, paper: nothing(paper) and is_exact(*parts),
    "stray": stray_is, "misses": missed_is, "ties": tied_is,
    "settles": lambda parts, paper: nothing(paper) and settles(*parts),
    "joins": lambda parts, paper: nothing(paper) and joins(*parts), "jumps": jumps_is,
    "joins against": lambda parts, paper: nothing(paper) and joins_against(*parts), "jumps against": jumps_against_is,
    "keeps rises": lambda parts, paper: nothing(paper) and keeps_rises(*parts), "parts rises": parted_is,
    "round": lambda parts, paper: nothing(paper) and is_round(*parts),
    "no round": lambda parts, paper: nothing(paper) and not is_round(*parts),
    "bounds": bounds_is, "does not bound": bounds_not, "holes": holes_are,
    "joined": lambda parts, paper: nothing(paper) and is_joined(*parts), "not joined": joined_not,
    "risen": risen_is, "not risen": risen_not,
}
PARTS = {"rise": 1, "no rise": 1, "joins": 1, "jumps": 1, "round": 3, "no round": 3, "bounds": 3, "does not bound": 3, "holes": 4,
         "risen": 5, "not risen": 5}


def shifted(value):
    """The value with one whole number one greater or less, or one element left out or told twice, at each of its places."""
    found = []
    if type(value) is int:
        return [value + 1, value - 1] if abs(value) < 10 ** 9 else [value + 1]
    if isinstance(value, tuple):
        for at, part in enumerate(value):
            found += [value[:at] + value[at + 1:], value[:at + 1] + value[at:]]
            found += [value[:at] + (other,) + value[at + 1:] for other in shifted(part)]
    return found
