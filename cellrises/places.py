"""Joined tuples of forms and their numbers at the places of a kind. Nothing is checked here.

Numbers at places are kept as a dict from faces of a parting to lists, a number for each told test.
"""

from cellrises.arithmetic import fraction_product
from cellrises.elements import tests_on, told_element, weights_on_faces
from cellrises.formrows import tables_of
from cellrises.forms import sum_of
from cellrises.landfaces import cell_with, common_corners, face_of_cell, own_face
from cellrises.led import faces_of, trace_on
from cellrises.partings import faces_in
from cellrises.rows import first_outside
from cellrises.tables import settled_forms, sum_with_numbers, table_rows, whole_form


def tests_by_dimension(parting, kind, degree, sort):
    """The told tests of a kind, a tuple for each dimension up to that of a parting."""
    return [tests_on(kind, own, degree, sort) for own in range(parting[0] + 1)]


def faces_with_tests(parting, kind, degree, sort):
    """All faces of a parting from the sort on, in order, each with the told tests there."""
    tests = tests_by_dimension(parting, kind, degree, sort)
    return [(face, tests[own]) for own in range(sort, parting[0] + 1) for face in faces_in(parting, own)]


def count_free(parting, lot, kind, degree, sort):
    """How many places of a kind are on faces that are not held."""
    return sum([len(tests) for face, tests in faces_with_tests(parting, kind, degree, sort) if face not in lot])


def trace_in(parting, joined, face):
    """The one trace of a joined tuple on a face of the parting."""
    index = cell_with(parting, face)
    return trace_on(joined[index], own_face(parting[1][index], face))


def sum_on(parting, joined, face):
    """The sum of a joined tuple over a face of the dimension that is its sort."""
    return sum_of(trace_in(parting, joined, face))


def is_held_on(parting, joined, lot):
    """Whether a joined tuple is held beside a lot."""
    faces = [face for face in lot if len(face) > joined[0][1]]
    return all([trace_in(parting, joined, face)[2] == () for face in faces])


def first_apart(parting, joined):
    """The indexes of two cells whose traces on their common face differ, the second one the least it can be; None."""
    traces = {}
    for index, cell in enumerate(parting[1]):
        for other in range(index):
            face = common_corners(cell, parting[1][other])
            if len(face) > joined[0][1]:
                for each in (index, other):
                    if (each, face) not in traces:
                        traces[(each, face)] = trace_on(joined[each], own_face(parting[1][each], face))
                if traces[(index, face)] != traces[(other, face)]:
                    return (other, index)
    return None


def first_not_of(span, joined):
    """The index of the first cell whose form is not in a span; None."""
    return first_outside(tables_of(joined), tables_of(span))


def numbers_on_faces(parting, kind, degree, joined):
    """The numbers of a joined tuple at the places of a kind."""
    wholes = [whole_form(form) for form in joined]
    found = {}
    for face, tests in faces_with_tests(parting, kind, degree, joined[0][1]):
        index = cell_with(parting, face)
        form, (above, below) = wholes[index]
        own = own_face(parting[1][index], face)
        rows = table_rows((form,), [(own, test) for test in tests])
        found[face] = [fraction_product(row[0], (below, above)) for row in rows]
    return found


def joined_by(parting, kind, degree, sort, numbers):
    """The joined tuple of a kind with these numbers."""
    told = told_element(kind, parting[0], degree, sort)
    base = settled_forms(told[0], weights_on_faces(told))
    faces = faces_of(parting[0], sort)
    found = []
    for cell in parting[1]:
        worths = []
        for face in faces:
            worths.extend(numbers[face_of_cell(cell, face)])
        found.append(sum_with_numbers(base, worths))
    return tuple(found)
