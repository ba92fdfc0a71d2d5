"""Pairs of free forms and tests: the told ones, their weights, whether they settle, and what lives on faces."""

from cellrises.checks import check_told
from cellrises.errors import InvalidElement, InvalidFace, NotSettled
from cellrises.formrows import base_in_stairs
from cellrises.led import faces_of, is_face
from cellrises.measures import is_test
from cellrises.spans import are_forms, rank_of, trimmed_span, whole_span
from cellrises.tables import is_settling, settled_forms


def is_element(value):
    """Whether a value, whatever it is, is an element."""
    if not isinstance(value, tuple) or len(value) != 2:
        return False
    forms, tests = value
    if not are_forms(forms) or forms[0][0] == 0:
        return False
    return _are_tests(forms[0][0], forms[0][1], tests) and rank_of(forms) == len(forms)


def _are_tests(dimension, sort, tests):
    """Whether a value is a tuple of tuples of tests for the sort, one for each dimension up to the told one."""
    if not isinstance(tests, tuple) or len(tests) != dimension + 1:
        return False
    if not all(isinstance(each, tuple) for each in tests):
        return False
    # Below the sort there are no tests: none can be a form of a sort below 0.
    return all([is_test(own, sort, test) for own, each in enumerate(tests) for test in each])


def check_element(element):
    """Refuse what is no element."""
    if not is_element(element):
        raise InvalidElement(element)


def told_tests(kind, dimension, degree, sort):
    """The told tests, a tuple for each dimension from 0 to that of the cell."""
    check_told(kind, dimension, degree, sort)
    return tuple([tests_on(kind, own, degree, sort) for own in range(dimension + 1)])


def tests_on(kind, dimension, degree, sort):
    """The told tests on the cell of a dimension; what tells them is not checked."""
    if dimension < sort:
        return ()
    if kind == "trimmed":
        least = degree + sort - dimension - 1
        return whole_span(dimension, least, dimension - sort) if least >= 0 else ()
    if dimension == sort:
        return whole_span(dimension, degree, 0)
    least = degree + sort - dimension
    return trimmed_span(dimension, least, dimension - sort) if least >= 1 else ()


def told_element(kind, dimension, degree, sort):
    """The told element."""
    tests = told_tests(kind, dimension, degree, sort)
    return (told_forms(kind, dimension, degree, sort), tests)


def told_forms(kind, dimension, degree, sort):
    """The base of a told span; the kind is not checked."""
    return whole_span(dimension, degree, sort) if kind == "whole" else trimmed_span(dimension, degree, sort)


def weights_of(element):
    """The weights of an element, face by face."""
    check_element(element)
    return weights_on_faces(element)


def weights_on_faces(element):
    """The weights of an element, which is not checked."""
    forms, tests = element
    faces = faces_of(forms[0][0], forms[0][1])
    return tuple([(face, test) for face in faces for test in tests[len(face) - 1]])


def settles_cell(element):
    """Whether an element settles."""
    check_element(element)
    return is_settled(element)


def is_settled(element):
    """Whether an element, which is not checked, settles."""
    return is_settling(element[0], weights_on_faces(element))


def living_on(element, face):
    """The base in stairs of the forms that live on a face."""
    check_element(element)
    if not is_face(element[0][0][0], face):
        raise InvalidFace(face)
    weights = weights_on_faces(element)
    forms = settled_forms(element[0], weights)
    if forms is None:
        raise NotSettled()
    own = [form for form, weight in zip(forms, weights) if weight[0] == face]
    return base_in_stairs(element[0][0], own)
