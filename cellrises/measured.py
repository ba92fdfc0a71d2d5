"""Measured forms: those of a span with the same measures, and whether measuring and the rise change places."""

from cellrises.arithmetic import NIL, ONE, fraction_sum, fraction_times
from cellrises.elements import check_element, is_settled, weights_on_faces
from cellrises.errors import InvalidElement, InvalidForm, NotSettled, UnlikeElements
from cellrises.formrows import tables_of
from cellrises.forms import degree_of, is_form, plus, rise, times_number
from cellrises.led import faces_of, trace
from cellrises.polynomials import polynomial_product
from cellrises.rows import first_outside
from cellrises.tables import form_measuring, numbers_with, table_rows, turned, whole_form, whole_forms, whole_weights
from cellrises.terms import add_at, axes_together, form_from


def _check_tests(element):
    """Refuse what is no element, or one with a test of a degree above 4."""
    check_element(element)
    degrees = [degree_of(test) for tests in element[1] for test in tests]
    if max([degree for degree in degrees if degree is not None], default=0) > 4:
        raise InvalidElement(element)


def measured(element, form):
    """The form of the span with the same measures by the weights of an element."""
    _check_tests(element)
    forms = element[0]
    if not is_form(form) or form[:2] != forms[0][:2]:
        raise InvalidForm(form)
    weights = weights_on_faces(element)
    measures = [row[0] for row in table_rows((form,), weights)]
    found = form_measuring(forms, weights, measures)
    if found is None:
        raise NotSettled()
    return found


def check_rising(element, other):
    """Refuse two elements that are none, that do not go together, or of which one does not settle."""
    _check_tests(element)
    _check_tests(other)
    form, behind = element[0][0], other[0][0]
    if form[0] != behind[0] or form[1] + 1 != behind[1]:
        raise UnlikeElements()
    if not is_settled(element) or not is_settled(other):
        raise NotSettled()


def keeps_rises(element, other):
    """Whether for all forms the rise of the measured form is the measured form of the rise."""
    check_rising(element, other)
    return _risen_outside(element, other) is None and _unkept_test(element, other) is None


def parting_form(element, other):
    """A form for which the rise of the measured form is not the measured form of the rise; None."""
    check_rising(element, other)
    form = _risen_outside(element, other)
    if form is not None:
        return form
    test = _unkept_test(element, other)
    return None if test is None else _form_parted_by(element, test)


def _risen_outside(element, other):
    """The first form of an element whose rise is not in the span of the other one; None."""
    index = first_outside(tables_of([rise(form) for form in element[0]]), tables_of(other[0]))
    return None if index is None else element[0][index]


def _unkept_test(element, other):
    """The first test of the other element by which rises are not told by measures of the element; None."""
    for tests in other[1]:
        for test in tests:
            if not _is_kept(element, test):
                return test
    return None


def _is_kept(element, test):
    """Whether the rise of a test and its traces on sides are sums of multiples of an element's tests."""
    dimension = test[0]
    if first_outside(tables_of([rise(test)]), tables_of(element[1][dimension])) is not None:
        return False
    traces = [trace(test, side) for side in faces_of(dimension, dimension - 1)[:-1]]
    return first_outside(tables_of(traces), tables_of(element[1][dimension - 1])) is None


def _form_parted_by(element, test):
    """A form whose rise has another measure by a test that is not kept than the rise of its measured form."""
    forms = whole_forms(element[0])
    weights, _ = whole_weights(weights_on_faces(element))
    parts = weights_of_rise(test)
    many = len(forms)
    worths = [_total(column) for column in turned(table_rows(forms, parts), many)]
    # With these numbers the measures of a form make what its measured form's rise is weighed to by the test.
    numbers = numbers_with(turned(table_rows(forms, weights), many), worths)
    for (face, own), number in zip(weights, numbers):
        parts.append((face, times_number(own, fraction_times(number, -1))))
    face, rest = _last_left(forms[0][0], parts)
    return form_felt(forms[0][0], face, whole_form(rest)[0])


def weights_of_rise(test):
    """Weights by which a form's measures add up to that of its rise by a test on the face of the first corners."""
    # By Stokes, of the product of form and test.
    corners = tuple(range(test[0] + 1))
    odd = (test[0] - test[1] - 1) % 2
    found = [(corners, times_number(rise(test), (1 if odd else -1, 1)))]
    for corner in corners:
        side = corners[:corner] + corners[corner + 1:]
        found.append((side, times_number(trace(test, side), (-1 if corner % 2 else 1, 1))))
    return found


def _total(numbers):
    """The sum of fractions."""
    total = NIL
    for number in numbers:
        total = fraction_sum(total, number)
    return total


def _last_left(dimension, weights):
    """The last face, in order, on which the tests of weights do not add up to nought, and what they add up to."""
    # No other such face has all of its corners, so what has no trace but there is weighed by this sum alone.
    sums = {}
    for face, test in weights:
        sums[face] = plus(sums[face], test) if face in sums else test
    return [(each, sums[each]) for each in faces_of(dimension, 0) if each in sums and sums[each][2]][-1]


def form_felt(dimension, face, test):
    """A form with a measure above 0 by a test, not nought, on a face, and with no trace where a corner of it lacks."""
    bubble = {(0,) * dimension: ONE}
    for corner in face:
        bubble = polynomial_product(bubble, _coordinate(dimension, corner))
    table = {}
    for axes, powers, fraction in test[2]:
        others = tuple([axis for axis in range(1, len(face)) if axis not in axes])
        _, sign = axes_together(others, axes)
        own = {_powers_on(dimension, face, powers): fraction_times(fraction, sign)}
        for found, worth in polynomial_product(bubble, own).items():
            add_at(table, (tuple([face[axis] for axis in others]), found), worth)
    return form_from(dimension, test[0] - test[1], table)


def _powers_on(dimension, face, powers):
    """Powers of the numbers of a face as those of the axes of its last corners."""
    found = [0] * dimension
    for corner, power in zip(face[1:], powers):
        found[corner - 1] = power
    return tuple(found)


def _coordinate(dimension, corner):
    """The polynomial of the degree 1 that is 1 at a corner and 0 at all others."""
    still = (0,) * dimension
    steps = [still[:at] + (1,) + still[at + 1:] for at in range(dimension)]
    if corner > 0:
        return {steps[corner - 1]: ONE}
    found = {step: (-1, 1) for step in steps}
    found[still] = ONE
    return found
