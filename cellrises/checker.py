"""The checker: whether a claim is so, by a paper where one is told; of all other values it accepts none."""

from cellrises.arithmetic import NIL, fraction_product, fraction_sum, is_between, is_fraction, is_whole
from cellrises.chains import borders_free, check_beside_lot, holes, is_chain, is_round
from cellrises.closed import is_closed, risen_from
from cellrises.elements import check_element
from cellrises.errors import CellError
from cellrises.forms import rise
from cellrises.joined import check_cell_forms, check_of_kind, is_joined, rises, sum_along
from cellrises.landfaces import border_of, chain_row, common_corners, lot_of, own_face
from cellrises.led import is_face, trace_on
from cellrises.measured import check_rising, keeps_rises, measured
from cellrises.measures import check_weighed, settles
from cellrises.meetings import check_test, joins, joins_against, weights_between
from cellrises.partings import check_parting
from cellrises.places import is_held_on
from cellrises.potentials import check_risen, degree_ahead
from cellrises.spans import check_form_beside, check_one_behind, is_exact, is_within
from cellrises.tables import sum_with_numbers, table_rows, turned


def _is_empty(paper):
    """Whether a paper is (), as it is where none is told."""
    return isinstance(paper, tuple) and len(paper) == 0


def _are_fractions(paper, many):
    """Whether a paper is a tuple of so many fractions."""
    return isinstance(paper, tuple) and len(paper) == many and all(is_fraction(number) for number in paper)


def _rise(claim, paper):
    """A form is a rise: of the paper."""
    _, form = claim
    return risen_from(form) is not None and rise(paper) == form


def _no_rise(claim, paper):
    """A form is no rise."""
    _, form = claim
    return risen_from(form) is None and _is_empty(paper)


def _within(claim, paper):
    """A form is in a span: with the numbers of the paper."""
    _, forms, form = claim
    check_form_beside(forms, form)
    return _are_fractions(paper, len(forms)) and sum_with_numbers(forms, paper) == form


def _without(claim, paper):
    """A form is not in a span."""
    _, forms, form = claim
    return not is_within(forms, form) and _is_empty(paper)


def _exact(claim, paper):
    """Two spans are exact."""
    _, forms, others = claim
    return is_exact(forms, others) and _is_empty(paper)


def _stray(claim, paper):
    """Two spans are not exact: the paper is a stray."""
    _, forms, others = claim
    check_one_behind(forms, others)
    if not is_within(others, paper) or not is_closed(paper):
        return False
    return not is_within(tuple([rise(form) for form in forms]), paper)


def _settles(claim, paper):
    """Weights settle forms."""
    _, forms, weights = claim
    return settles(forms, weights) and _is_empty(paper)


def _misses(claim, paper):
    """Weights miss a form of a span: the paper."""
    _, forms, weights = claim
    check_weighed(forms, weights)
    if not is_within(forms, paper) or paper[2] == ():
        return False
    return all([row == [NIL] for row in table_rows((paper,), weights)])


def _ties(claim, paper):
    """Weights are tied: by the numbers of the paper."""
    _, forms, weights = claim
    check_weighed(forms, weights)
    if not _are_fractions(paper, len(weights)) or all(number == NIL for number in paper):
        return False
    columns = turned(table_rows(forms, weights), len(forms))
    return all([_total(column, paper) == NIL for column in columns])


def _total(numbers, factors):
    """The sum of the products of fractions, one by one."""
    total = NIL
    for number, factor in zip(numbers, factors):
        total = fraction_sum(total, fraction_product(number, factor))
    return total


def _joins(claim, paper):
    """An element joins."""
    _, element = claim
    return joins(element) and _is_empty(paper)


def _jumps(claim, paper):
    """An element does not join: the paper is a pair that jumps."""
    _, element = claim
    check_element(element)
    jump = _unmeasured_jump(element, paper)
    return jump is not None and jump[2] != ()


def _joins_against(claim, paper):
    """An element joins against a test."""
    _, element, test = claim
    return joins_against(element, test) and _is_empty(paper)


def _jumps_against(claim, paper):
    """An element does not join against a test: the paper is a pair that jumps beside it."""
    _, element, test = claim
    check_test(element, test)
    jump = _unmeasured_jump(element, paper)
    if jump is None or jump[0] != test[0]:
        return False
    return table_rows((jump,), ((tuple(range(test[0] + 1)), test),)) != [[NIL]]


def _unmeasured_jump(element, paper):
    """The difference of the two traces that a paper tells, of forms of the span, if all its measures are 0; None."""
    if not isinstance(paper, tuple) or len(paper) != 4:
        return None
    face, other, first, second = paper
    dimension, sort = element[0][0][:2]
    if not is_face(dimension, face) or not is_face(dimension, other) or len(face) != len(other):
        return None
    if not sort < len(face) <= dimension:
        return None
    if not is_within(element[0], first) or not is_within(element[0], second):
        return None
    jump = sum_with_numbers((trace_on(first, face), trace_on(second, other)), ((1, 1), (-1, 1)))
    rows = table_rows((jump,), weights_between(element, len(face) - 1))
    return jump if all([row == [NIL] for row in rows]) else None


def _keeps_rises(claim, paper):
    """An element keeps rises beside another one."""
    _, element, other = claim
    return keeps_rises(element, other) and _is_empty(paper)


def _parts_rises(claim, paper):
    """An element does not keep rises beside another one: the paper is a form that parts them."""
    _, element, other = claim
    check_rising(element, other)
    return rise(measured(element, paper)) != measured(other, rise(paper))


def _round(claim, paper):
    """A chain is a round."""
    _, parting, held, chain = claim
    return is_round(parting, held, chain) and _is_empty(paper)


def _no_round(claim, paper):
    """A chain is no round."""
    _, parting, held, chain = claim
    return not is_round(parting, held, chain) and _is_empty(paper)


def _bounds(claim, paper):
    """A chain bounds: the paper, with what is held."""
    _, parting, held, chain = claim
    check_beside_lot(parting, held, chain)
    if not is_chain(parting, paper):
        return False
    if paper and len(paper[0][0]) < 2:
        return False
    if paper and chain and len(paper[0][0]) != len(chain[0][0]) + 1:
        return False
    lot = lot_of(held)
    return border_of(paper, lot) == chain_row(chain, lot)


def _does_not_bound(claim, paper):
    """A chain does not bound: the paper has weights against it."""
    _, parting, held, chain = claim
    check_beside_lot(parting, held, chain)
    if not is_chain(parting, paper):
        return False
    lot = lot_of(held)
    weights = chain_row(paper, lot)
    # Weights of another dimension make 0 of the chain, too.
    if len(weights) < len(paper) or _weighed(chain_row(chain, lot), weights) == NIL:
        return False
    return all([_weighed(row, weights) == NIL for row in borders_free(parting, lot, len(chain[0][0]))])


def _weighed(row, weights):
    """What weights make of a row."""
    keys = [key for key in row if key in weights]
    return _total([row[key] for key in keys], [weights[key] for key in keys])


def _holes(claim, paper):
    """The holes of a dimension are so many."""
    _, parting, held, dimension, number = claim
    return is_whole(number) and number == holes(parting, held, dimension) and _is_empty(paper)


def _joined(claim, paper):
    """Cell forms are joined."""
    _, parting, joined = claim
    return is_joined(parting, joined) and _is_empty(paper)


def _not_joined(claim, paper):
    """Cell forms are not joined: the traces on what two cells of the paper share are unlike."""
    _, parting, joined = claim
    check_parting(parting)
    check_cell_forms(parting, joined)
    if not isinstance(paper, tuple) or len(paper) != 2:
        return False
    if not all(is_between(index, 0, len(joined) - 1) for index in paper):
        return False
    cells = [parting[1][index] for index in paper]
    face = common_corners(cells[0], cells[1])
    if len(face) <= joined[0][1]:
        return False
    traces = [trace_on(joined[index], own_face(cell, face)) for index, cell in zip(paper, cells)]
    return traces[0] != traces[1]


def _risen(claim, paper):
    """A closed joined held tuple has a potential: the paper."""
    _, parting, held, kind, degree, joined = claim
    check_risen(parting, held, kind, degree, joined)
    check_cell_forms(parting, paper)
    check_of_kind(parting, "trimmed", degree_ahead(kind, degree), paper)
    return is_held_on(parting, paper, lot_of(held)) and rises(parting, paper) == joined


def _not_risen(claim, paper):
    """A closed joined held tuple has no potential: the round of the paper bars it."""
    _, parting, held, kind, degree, joined = claim
    check_risen(parting, held, kind, degree, joined)
    return is_round(parting, held, paper) and sum_along(parting, joined, paper) != NIL


_PARTS = {
    "rise": 2, "no rise": 2, "within": 3, "without": 3, "exact": 3, "stray": 3, "settles": 3, "misses": 3, "ties": 3,
    "joins": 2, "jumps": 2, "joins against": 3, "jumps against": 3, "keeps rises": 3, "parts rises": 3,
    "round": 4, "no round": 4, "bounds": 4, "does not bound": 4, "holes": 5, "joined": 3, "not joined": 3,
    "risen": 6, "not risen": 6,
}

_CHECKS = {
    "rise": _rise, "no rise": _no_rise, "within": _within, "without": _without, "exact": _exact, "stray": _stray,
    "settles": _settles, "misses": _misses, "ties": _ties, "joins": _joins, "jumps": _jumps,
    "joins against": _joins_against, "jumps against": _jumps_against, "keeps rises": _keeps_rises,
    "parts rises": _parts_rises, "round": _round, "no round": _no_round, "bounds": _bounds,
    "does not bound": _does_not_bound, "holes": _holes, "joined": _joined, "not joined": _not_joined,
    "risen": _risen, "not risen": _not_risen,
}


def _is_shown(claim, paper):
    """Whether a value is a claim, and another one a paper for it; what is wrong within a part may raise an error."""
    if not isinstance(claim, tuple) or len(claim) == 0 or not isinstance(claim[0], str):
        return False
    name = claim[0]
    if name not in _PARTS or len(claim) != _PARTS[name]:
        return False
    check = _CHECKS[name]
    return check(claim, paper)


def accepts(claim, paper):
    """Whether a value, whatever it is, is a claim, and another one a paper for it."""
    try:
        return _is_shown(claim, paper)
    except CellError:
        # A part that is refused where it is told as a parameter makes no claim, and no paper.
        return False
