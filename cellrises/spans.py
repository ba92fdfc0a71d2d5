"""Spans of forms, and the told ones: bases in stairs, what lies in what, closed forms, traces, exact spans."""

from itertools import combinations

from cellrises.arithmetic import ONE
from cellrises.checks import check_degree, check_dimension, check_sort
from cellrises.errors import InvalidForms, UnlikeForms
from cellrises.formrows import base_in_stairs, forms_behind, free_forms, row_behind, tables_of
from cellrises.forms import check_form, is_form, lowered, rise
from cellrises.led import check_face, faces_of, trace
from cellrises.rows import first_outside


def are_forms(value):
    """Whether a value, whatever it is, is a tuple of one or more forms of one dimension and one sort."""
    if not isinstance(value, tuple) or len(value) == 0:
        return False
    return all(is_form(each) and each[:2] == value[0][:2] for each in value)


def check_forms(forms):
    """Refuse what is no tuple of one or more forms of one dimension and one sort."""
    if not isinstance(forms, tuple) or len(forms) == 0:
        raise InvalidForms(None)
    for index, form in enumerate(forms):
        if not is_form(form) or form[:2] != forms[0][:2]:
            raise InvalidForms(index)


def base_of(forms):
    """The base in stairs of the span of forms."""
    check_forms(forms)
    return base_in_stairs(forms[0], forms)


def rank_of(forms):
    """How many forms the base in stairs has."""
    check_forms(forms)
    return len(free_forms(forms))


def is_within(forms, form):
    """Whether a form is in the span of forms."""
    check_form_beside(forms, form)
    return first_outside(tables_of((form,)), tables_of(forms)) is None


def check_form_beside(forms, form):
    """Refuse what are no forms, no form, or unlike ones."""
    check_forms(forms)
    check_form(form)
    _check_like(forms[0], form)


def _check_like(form, other):
    """Refuse forms of unlike dimensions or sorts."""
    if form[:2] != other[:2]:
        raise UnlikeForms()


def lies_in(forms, others):
    """Whether the span of forms lies in that of others."""
    return stray_of(forms, others) is None


def stray_of(forms, others):
    """The first one of forms that is not in the span of others; None."""
    check_forms(forms)
    check_forms(others)
    _check_like(forms[0], others[0])
    index = first_outside(tables_of(forms), tables_of(others))
    return None if index is None else forms[index]


def common(forms, others):
    """The base in stairs of what both spans have."""
    check_forms(forms)
    check_forms(others)
    _check_like(forms[0], others[0])
    # A sum of both that is nought ahead is one of forms' sums that is one of others', too: it stands behind.
    nought = (forms[0][0], forms[0][1], ())
    rows = [_row(form, [form]) for form in free_forms(forms)]
    rows.extend([_row(nought, [form]) for form in free_forms(others)])
    return forms_behind(forms[0], rows)


def _row(form, images):
    """A row of a form and, ahead of all of it, its images."""
    row = row_behind(form)
    for at, image in enumerate(images):
        for axes, powers, fraction in image[2]:
            row[(0, at, (axes, powers))] = fraction
    return row


def _forms_with_noughts(model, forms, images):
    """The base in stairs of the sums of free forms whose images, a list for each form, all are nought."""
    return forms_behind(model, [_row(form, own) for form, own in zip(forms, images)])


def rises_of(forms):
    """The base in stairs of the rises of forms."""
    check_forms(forms)
    if forms[0][1] == forms[0][0]:
        raise InvalidForms(0)
    rises = [rise(form) for form in free_forms(forms)]
    return base_in_stairs((forms[0][0], forms[0][1] + 1), rises)


def closed_of(forms):
    """The base in stairs of the closed forms of a span."""
    check_forms(forms)
    if forms[0][1] == forms[0][0]:
        return base_in_stairs(forms[0], forms)
    free = free_forms(forms)
    return _forms_with_noughts(forms[0], free, [[rise(form)] for form in free])


def traces_of(forms, face):
    """The base in stairs of the traces of forms on a face."""
    check_forms(forms)
    check_face(forms[0], face)
    traces = [trace(form, face) for form in free_forms(forms)]
    return base_in_stairs((len(face) - 1, forms[0][1]), traces)


def noughts_on_rim(forms):
    """The base in stairs of the forms of a span that are nought on the rim."""
    check_forms(forms)
    dimension, sort = forms[0][:2]
    if sort == dimension:
        return base_in_stairs(forms[0], forms)
    sides = faces_of(dimension, dimension - 1)[:-1]
    free = free_forms(forms)
    return _forms_with_noughts(forms[0], free, [[trace(form, side) for side in sides] for form in free])


def whole_span(dimension, degree, sort):
    """The base in stairs of WHOLE(degree, sort)."""
    check_dimension(dimension)
    check_degree(degree, 0)
    check_sort(sort, dimension)
    return tuple(_single_terms(dimension, degree, sort))


def _single_terms(dimension, degree, sort):
    """The forms of degrees up to a told one that have one term, with the number 1."""
    found = []
    for axes in combinations(range(1, dimension + 1), sort):
        for powers in _powers_up_to(dimension, degree):
            found.append((dimension, sort, ((axes, powers, ONE),)))
    return found


def _powers_up_to(dimension, degree):
    """All powers with a sum up to the degree, ascending."""
    if dimension == 0:
        return [()]
    found = []
    for power in range(degree + 1):
        found.extend([(power,) + rest for rest in _powers_up_to(dimension - 1, degree - power)])
    return found


def trimmed_span(dimension, degree, sort):
    """The base in stairs of TRIMMED(degree, sort)."""
    check_dimension(dimension)
    check_degree(degree, 1)
    check_sort(sort, dimension)
    forms = _single_terms(dimension, degree - 1, sort)
    if sort < dimension:
        forms.extend([lowered(form) for form in _single_terms(dimension, degree - 1, sort + 1)])
    return base_in_stairs((dimension, sort), forms)


def is_exact(forms, others):
    """Whether each closed form of the span of others is the rise of a form of that of forms."""
    return closed_stray(forms, others) is None


def closed_stray(forms, others):
    """A closed form of the span of others that is no rise of a form of that of forms; None."""
    check_one_behind(forms, others)
    closed = closed_of(others)
    index = first_outside(tables_of(closed), tables_of([rise(form) for form in free_forms(forms)]))
    return None if index is None else closed[index]


def check_one_behind(forms, others):
    """Refuse what are no forms, or others that are not of the same dimension and the sort one greater."""
    check_forms(forms)
    check_forms(others)
    if forms[0][0] != others[0][0] or forms[0][1] + 1 != others[0][1]:
        raise UnlikeForms()
