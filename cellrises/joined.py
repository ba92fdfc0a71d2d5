"""Joined tuples of cell forms: what they are, their numbers at places, their rises, and their sums along chains."""

from cellrises.arithmetic import NIL, fraction_product, fraction_sum
from cellrises.chains import check_chain, check_held
from cellrises.checks import check_land_kind, check_sort_beside
from cellrises.elements import told_forms
from cellrises.errors import InvalidChain, InvalidDegree, InvalidJoined, NotJoined, NotOfKind
from cellrises.forms import is_form, rise
from cellrises.landfaces import lot_of
from cellrises.measures import check_numbers
from cellrises.partings import check_parting
from cellrises.places import count_free, faces_with_tests, first_apart, first_not_of, is_held_on, joined_by
from cellrises.places import numbers_on_faces, sum_on


def check_cell_forms(parting, joined):
    """Refuse what is no tuple of forms of one sort, one for each cell."""
    if not isinstance(joined, tuple) or len(joined) != len(parting[1]):
        raise InvalidJoined(None)
    for index, form in enumerate(joined):
        if not is_form(form) or form[:2] != (parting[0], joined[0][1]):
            raise InvalidJoined(index)


def check_joined(parting, joined):
    """Refuse cell forms that are not joined."""
    apart = first_apart(parting, joined)
    if apart is not None:
        raise NotJoined(apart[1])


def check_of_kind(parting, kind, degree, joined):
    """Refuse cell forms of a sort that the degree does not have, that are not joined, or not of the kind."""
    sort = joined[0][1]
    if degree == 0 and sort != parting[0]:
        raise InvalidDegree(degree)
    check_joined(parting, joined)
    index = first_not_of(told_forms(kind, parting[0], degree, sort), joined)
    if index is not None:
        raise NotOfKind(index)


def is_joined(parting, joined):
    """Whether cell forms are joined."""
    check_parting(parting)
    check_cell_forms(parting, joined)
    return first_apart(parting, joined) is None


def count_of(parting, held, kind, degree, sort):
    """How many places of a kind are on faces that are not held."""
    check_kind_beside(parting, held, kind, degree, sort)
    return count_free(parting, lot_of(held), kind, degree, sort)


def check_kind_beside(parting, held, kind, degree, sort):
    """Refuse what are no parting, no faces of it, and no told kind, degree and sort."""
    check_parting(parting)
    check_held(parting, held)
    check_land_kind(kind, degree, parting[0])
    check_sort_beside(degree, sort, parting[0])


def numbers_of(parting, kind, degree, joined):
    """The numbers of a joined tuple at the places of a kind, in order."""
    check_parting(parting)
    check_land_kind(kind, degree, parting[0])
    check_cell_forms(parting, joined)
    check_of_kind(parting, kind, degree, joined)
    found = numbers_on_faces(parting, kind, degree, joined)
    return tuple([number for face in found for number in found[face]])


def joined_with(parting, kind, degree, sort, numbers):
    """The joined tuple of a kind with these numbers at its places."""
    check_parting(parting)
    check_land_kind(kind, degree, parting[0])
    check_sort_beside(degree, sort, parting[0])
    faces = faces_with_tests(parting, kind, degree, sort)
    check_numbers(numbers, sum([len(tests) for _, tests in faces]))
    told = {}
    begin = 0
    for face, tests in faces:
        told[face] = numbers[begin:begin + len(tests)]
        begin = begin + len(tests)
    return joined_by(parting, kind, degree, sort, told)


def is_held(parting, held, joined):
    """Whether a joined tuple is held beside a lot."""
    check_parting(parting)
    check_held(parting, held)
    check_cell_forms(parting, joined)
    check_joined(parting, joined)
    return is_held_on(parting, joined, lot_of(held))


def rises(parting, joined):
    """The rises of a joined tuple of a sort below the dimension, cell by cell."""
    check_parting(parting)
    check_cell_forms(parting, joined)
    if joined[0][1] == parting[0]:
        raise InvalidJoined(0)
    check_joined(parting, joined)
    return tuple([rise(form) for form in joined])


def sum_along(parting, joined, chain):
    """The sum of a joined tuple along a chain of the dimension that is its sort."""
    check_parting(parting)
    check_cell_forms(parting, joined)
    check_joined(parting, joined)
    check_chain(parting, chain)
    if chain and len(chain[0][0]) - 1 != joined[0][1]:
        raise InvalidChain(chain)
    return sum_beside(parting, joined, chain)


def sum_beside(parting, joined, chain):
    """The sum of a joined tuple along a chain; nothing is checked."""
    total = NIL
    for face, fraction in chain:
        total = fraction_sum(total, fraction_product(fraction, sum_on(parting, joined, face)))
    return total
