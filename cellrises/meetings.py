"""Where cells meet: whether forms with the same measures have the same traces there, or are weighed the same."""

from cellrises.arithmetic import NIL, ONE, is_whole
from cellrises.elements import check_element, is_settled
from cellrises.errors import InvalidCounts, InvalidTest, NotJoining, NotSettled
from cellrises.formrows import base_in_stairs
from cellrises.led import faces_of, trace_on
from cellrises.measures import is_test
from cellrises.rows import first_outside, free_among, stairs_of
from cellrises.tables import row_ahead, sum_with_numbers, table_rows, turned, whole_forms, whole_weights


def joins(element):
    """Whether an element joins."""
    check_element(element)
    return _faces_that_jump(element) is None


def jumping_pair(element):
    """Two faces and two forms of the span, whose traces differ by what is not nought, but measured to 0; None."""
    check_element(element)
    faces = _faces_that_jump(element)
    return None if faces is None else _pair_on(element, faces, None)


def joins_against(element, test):
    """Whether an element joins against a test."""
    check_test(element, test)
    return _faces_that_jump_against(element, test) is None


def against_pair(element, test):
    """Two faces and two forms of the span, whose traces differ by what is measured to 0, but not by the test; None."""
    check_test(element, test)
    faces = _faces_that_jump_against(element, test)
    return None if faces is None else _pair_on(element, faces, test)


def count_with(element, counts):
    """How many free tuples of forms, joined by an element, partings have with so many faces of each dimension."""
    check_element(element)
    _check_counts(counts, element[0][0][0] + 1)
    if not is_settled(element):
        raise NotSettled()
    if _faces_that_jump(element) is not None:
        raise NotJoining()
    return sum([count * len(tests) for count, tests in zip(counts, element[1])])


def check_test(element, test):
    """Refuse what is no element, and no test for its sort on a cell of a lesser dimension."""
    check_element(element)
    dimension, sort = element[0][0][:2]
    if not any([is_test(own, sort, test) for own in range(sort, dimension)]):
        raise InvalidTest(test)


def _check_counts(counts, many):
    """Refuse what is no tuple of so many whole numbers from 0 on."""
    if not isinstance(counts, tuple) or len(counts) != many:
        raise InvalidCounts(None)
    for index, count in enumerate(counts):
        if not is_whole(count) or count < 0:
            raise InvalidCounts(index)


def weights_between(element, dimension):
    """The weights by which two forms shall have the same measures where two cells meet in a face of a dimension."""
    sort = element[0][0][1]
    return [(face, test) for face in faces_of(dimension, sort) for test in element[1][len(face) - 1]]


def _differences(element, dimension):
    """Pairs of two faces of a dimension and the base in stairs of the differences of traces there; no base twice."""
    model = (dimension, element[0][0][1])
    faces = [face for face in faces_of(element[0][0][0], dimension) if len(face) == dimension + 1]
    bases = [base_in_stairs(model, [trace_on(form, face) for form in element[0]]) for face in faces]
    found = {}
    for at, face in enumerate(faces):
        for other in range(at + 1):
            alike = bases[at] == bases[other]
            base = bases[at] if alike else base_in_stairs(model, bases[other] + bases[at])
            found.setdefault(base, (faces[other], face))
    return [(found[base], base) for base in found]


def _faces_that_jump(element):
    """Two faces where some difference of traces is not nought, but all of its measures are 0; None."""
    dimension, sort = element[0][0][:2]
    for own in range(sort, dimension):
        weights, _ = whole_weights(weights_between(element, own))
        for faces, base in _differences(element, own):
            if _are_missed(base, weights):
                return faces
    return None


def _are_missed(base, weights):
    """Whether some sum of free forms that is not nought has all measures 0."""
    columns = turned(table_rows(whole_forms(base), weights), len(base))
    return len(free_among([row_ahead(column) for column in columns])) < len(base)


def _faces_that_jump_against(element, test):
    """Two faces where some difference of traces is measured to 0, but not by a test; None."""
    weights, _ = whole_weights(weights_between(element, test[0]) + [_weight_of(test)])
    for faces, base in _differences(element, test[0]):
        rows = [row_ahead(row) for row in table_rows(whole_forms(base), weights)]
        if first_outside(rows[-1:], rows[:-1]) is not None:
            return faces
    return None


def _weight_of(test):
    """The weight that a test is on its own cell."""
    return (tuple(range(test[0] + 1)), test)


def _pair_on(element, faces, test):
    """The pair of forms, with the faces where they jump: their traces differ, or what these are by a test, if told."""
    # The base in stairs has the same span, and mostly smaller numbers.
    forms = whole_forms(base_in_stairs(element[0][0], element[0]))
    dimension = len(faces[0]) - 1
    weights, _ = whole_weights(weights_between(element, dimension))
    rows = []
    for place, face in enumerate(faces):
        sign = (-1 if place else 1, 1)
        traces = [sum_with_numbers((trace_on(form, face),), (sign,)) for form in forms]
        columns = turned(table_rows(traces, weights), len(forms))
        for index, (trace, column) in enumerate(zip(traces, columns)):
            row = row_ahead(column)
            for key, worth in _watched(trace, test):
                row[(1, key)] = worth
            row[(2 + place, index)] = ONE
            rows.append(row)
    # The first row of those with all measures 0 still has something that is watched.
    found = stairs_of(rows, (1,))[0]
    first = [found.get((2, at), NIL) for at in range(len(forms))]
    second = [found.get((3, at), NIL) for at in range(len(forms))]
    return (*faces, sum_with_numbers(forms, first), sum_with_numbers(forms, second))


def _watched(trace, test):
    """What shall not be 0 of traces: their terms, or without keys what they are by a test; pairs, noughts left out."""
    if test is None:
        return [((axes, powers), fraction) for axes, powers, fraction in trace[2]]
    worth = table_rows((trace,), (_weight_of(test),))[0][0]
    return [] if worth == NIL else [((), worth)]
