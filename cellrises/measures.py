"""Measures of forms by weights: tables of them, what settles, what is missed, and which weights are tied."""

from cellrises.arithmetic import NIL, is_fraction
from cellrises.checks import check_dimension, check_sort
from cellrises.errors import InvalidNumbers, InvalidWeight, InvalidWeights, NotSettled
from cellrises.formrows import forms_behind
from cellrises.forms import check_form, is_form
from cellrises.led import is_face
from cellrises.rows import stairs_of
from cellrises.spans import check_forms
from cellrises.tables import form_measuring, is_settling, row_ahead, rows_with_measures, settled_forms, table_rows
from cellrises.tables import whole_forms, whole_weights


def is_weight(dimension, sort, value):
    """Whether a value, whatever it is, is a weight for the sort of a cell of the dimension."""
    check_dimension(dimension)
    check_sort(sort, dimension)
    if not isinstance(value, tuple) or len(value) != 2:
        return False
    face, test = value
    return is_face(dimension, face) and is_test(len(face) - 1, sort, test)


def is_test(dimension, sort, value):
    """Whether a value, whatever it is, is a test for the sort on a cell of the dimension."""
    return is_form(value) and value[:2] == (dimension, dimension - sort)


def measure(form, weight):
    """The measure of a form by a weight."""
    check_form(form)
    if not is_weight(form[0], form[1], weight):
        raise InvalidWeight(weight)
    return table_rows((form,), (weight,))[0][0]


def _check_weights(form, weights):
    """Refuse what is no tuple of one or more weights for the dimension and sort of a form."""
    if not isinstance(weights, tuple) or len(weights) == 0:
        raise InvalidWeights(None)
    for index, weight in enumerate(weights):
        if not is_weight(form[0], form[1], weight):
            raise InvalidWeights(index)


def check_weighed(forms, weights):
    """Refuse what are no forms, and no weights for them."""
    check_forms(forms)
    _check_weights(forms[0], weights)


def table_of(forms, weights):
    """The table: in row i, at place k, the measure of form k by weight i."""
    check_weighed(forms, weights)
    return tuple([tuple(row) for row in table_rows(forms, weights)])


def settles(forms, weights):
    """Whether weights settle forms."""
    check_weighed(forms, weights)
    return is_settling(forms, weights)


def missed_form(forms, weights):
    """A form of the span, not nought, whose measures all are 0; None."""
    check_weighed(forms, weights)
    lighter, _ = whole_weights(weights)
    missed = forms_behind(forms[0], rows_with_measures(whole_forms(forms), lighter))
    return missed[0] if missed else None


def tied_weights(forms, weights):
    """Numbers, not all 0, with which the measures add up to 0 for all forms of the span; None."""
    check_weighed(forms, weights)
    lighter, factors = whole_weights(weights)
    rows = []
    for at, measures in enumerate(table_rows(whole_forms(forms), lighter)):
        row = row_ahead(measures)
        row[(1, at)] = factors[at]
        rows.append(row)
    ties = stairs_of(rows, (1,))
    return tuple([ties[0].get((1, at), NIL) for at in range(len(weights))]) if ties else None


def base_beside(forms, weights):
    """For each weight the form of the span with the measure 1 by it and 0 by all others."""
    check_weighed(forms, weights)
    found = settled_forms(forms, weights)
    if found is None:
        raise NotSettled()
    return found


def form_with(forms, weights, numbers):
    """The form of the span with these measures."""
    check_weighed(forms, weights)
    check_numbers(numbers, len(weights))
    found = form_measuring(forms, weights, numbers)
    if found is None:
        raise NotSettled()
    return found


def check_numbers(numbers, many):
    """Refuse what is no tuple of so many fractions."""
    if not isinstance(numbers, tuple) or len(numbers) != many:
        raise InvalidNumbers(None)
    for index, number in enumerate(numbers):
        if not is_fraction(number):
            raise InvalidNumbers(index)
