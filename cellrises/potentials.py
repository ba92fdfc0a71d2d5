"""Potentials of closed joined tuples, the rounds that bar them, and how many closed ones and rises there are."""

from cellrises.arithmetic import NIL, fraction_product, fraction_sum, fraction_times
from cellrises.chains import check_held, faces_free, holes
from cellrises.checks import check_land_kind
from cellrises.closed import is_closed
from cellrises.elements import tests_on
from cellrises.errors import InvalidSort, NotClosed, NotHeld
from cellrises.joined import check_cell_forms, check_kind_beside, check_of_kind
from cellrises.landfaces import border_row, chain_from, face_of_cell, lot_of
from cellrises.measured import weights_of_rise
from cellrises.partings import check_parting
from cellrises.places import count_free, faces_with_tests, is_held_on, joined_by, numbers_on_faces
from cellrises.solving import numbers_adding, weights_parting
from cellrises.terms import terms_by_pair


def check_risen(parting, held, kind, degree, joined):
    """Refuse what are no parting, held lot, kind and degree, and no closed joined held tuple of a sort from 1 on."""
    check_parting(parting)
    check_held(parting, held)
    check_land_kind(kind, degree, parting[0])
    check_cell_forms(parting, joined)
    if joined[0][1] == 0:
        raise InvalidSort(0)
    check_of_kind(parting, kind, degree, joined)
    if not is_held_on(parting, joined, lot_of(held)):
        raise NotHeld()
    if not all([is_closed(form) for form in joined]):
        raise NotClosed()


def degree_ahead(kind, degree):
    """The degree of the trimmed kind that stands ahead of a kind."""
    return degree + 1 if kind == "whole" else degree


def potential(parting, held, kind, degree, joined):
    """A joined held tuple of the kind ahead whose rise a closed joined held tuple is; None."""
    check_risen(parting, held, kind, degree, joined)
    lot, sort = lot_of(held), joined[0][1]
    told = numbers_on_faces(parting, kind, degree, joined)
    sides = _coborders(parting, lot, sort)
    starts = numbers_adding([sides[side] for side in sides], _sums_free(told, lot, sort))
    if starts is None:
        return None
    more = degree_ahead(kind, degree)
    found = _noughts(parting, more, sort - 1)
    for at, side in enumerate(sides):
        # The first told test there is the number 1: so this is the sum over the side.
        found[side][0] = starts.get(at, NIL)
    for own in range(sort, parting[0] + 1):
        rules = [_rule(test, more) for test in tests_on(kind, own, degree, sort)]
        for face in faces_free(parting, lot, own):
            numbers = _numbers_risen(face, rules, told[face], found)
            for at in numbers:
                found[face][at] = numbers[at]
    return joined_by(parting, "trimmed", more, sort - 1, found)


def barring_round(parting, held, kind, degree, joined):
    """A round beside a held lot along which the sum of a closed joined held tuple is not 0; None."""
    check_risen(parting, held, kind, degree, joined)
    lot, sort = lot_of(held), joined[0][1]
    sums = _sums_free(numbers_on_faces(parting, kind, degree, joined), lot, sort)
    sides = _coborders(parting, lot, sort)
    weights = weights_parting([sides[side] for side in sides], sums)
    return None if weights is None else chain_from(weights)


def _sums_free(numbers, lot, sort):
    """The sums, not 0, over the faces of the dimension of the sort that are not held."""
    # The first told test there is the number 1.
    faces = [face for face in numbers if len(face) == sort + 1 and face not in lot]
    return {face: numbers[face][0] for face in faces if numbers[face][0] != NIL}


def _coborders(parting, lot, dimension):
    """For each face of one dimension less that is not held in which borders of faces it stands, and how."""
    found = {side: {} for side in faces_free(parting, lot, dimension - 1)}
    for face in faces_free(parting, lot, dimension):
        for side, sign in border_row(face, lot).items():
            row = found[side]
            row[face] = sign
    return found


def _noughts(parting, degree, sort):
    """The number 0 for each place of a trimmed kind."""
    return {face: [NIL] * len(tests) for face, tests in faces_with_tests(parting, "trimmed", degree, sort)}


def _rule(test, degree):
    """How the measure of a rise by a test comes from the numbers of what rises, of a trimmed kind.

    Pairs of a face and shares by the indexes of the places there: first the face itself, then its sides.
    """
    sort = test[0] - test[1] - 1
    found = []
    for face, own in weights_of_rise(test):
        base = tests_on("trimmed", len(face) - 1, degree, sort)
        terms = terms_by_pair(own)
        # In stairs no other form of the base has a term with the pair of a first one.
        firsts = [each[2][0][:2] for each in base]
        found.append((face, {at: terms[pair] for at, pair in enumerate(firsts) if pair in terms}))
    return found


def _numbers_risen(face, rules, told, numbers):
    """Numbers, by index, for the places on a face with which the measures of the rise there are the told ones."""
    rows, rest = {}, {}
    for index, (rule, worth) in enumerate(zip(rules, told)):
        for at, number in rule[0][1].items():
            row = rows.setdefault(at, {})
            row[index] = number
        for side, shares in rule[1:]:
            below = numbers[face_of_cell(face, side)]
            for at, share in shares.items():
                worth = fraction_sum(worth, fraction_times(fraction_product(share, below[at]), -1))
        if worth != NIL:
            rest[index] = worth
    places = list(rows)
    found = numbers_adding([rows[at] for at in places], rest)
    return {places[at]: found[at] for at in found}


def closed_count(parting, held, kind, degree, sort):
    """How many free closed joined held tuples of a kind there are."""
    check_kind_beside(parting, held, kind, degree, sort)
    return _closed_many(parting, held, kind, degree, sort)


def _closed_many(parting, held, kind, degree, sort):
    """How many free closed joined held tuples of a kind there are: the holes, and the rises of those ahead."""
    many = holes(parting, held, sort)
    if sort == 0:
        return many
    return many + _risen_many(parting, held, "trimmed", degree_ahead(kind, degree), sort - 1)


def _risen_many(parting, held, kind, degree, sort):
    """How many free rises joined held tuples of a kind have."""
    many = count_free(parting, lot_of(held), kind, degree, sort)
    return many - _closed_many(parting, held, kind, degree, sort)


def risen_count(parting, held, kind, degree, sort):
    """How many free rises joined held tuples of a kind have; 0 for the sort that is the dimension."""
    check_kind_beside(parting, held, kind, degree, sort)
    return 0 if sort == parting[0] else _risen_many(parting, held, kind, degree, sort)
