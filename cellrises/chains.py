"""Chains of partings: their borders, rounds beside a held lot, holes, and what bounds."""

from cellrises.arithmetic import NIL, ONE, is_fraction
from cellrises.checks import check_dimension
from cellrises.errors import InvalidChain, InvalidHeld
from cellrises.landfaces import border_of, border_row, chain_from, chain_row, is_face_in, lot_of
from cellrises.partings import check_parting, faces_in
from cellrises.rows import free_among, stairs_of
from cellrises.solving import numbers_adding, weights_parting


def check_held(parting, held):
    """Refuse what is no tuple of faces of a parting."""
    if not isinstance(held, tuple):
        raise InvalidHeld(None)
    for index, face in enumerate(held):
        if not is_face_in(parting, face):
            raise InvalidHeld(index)


def is_chain(parting, value):
    """Whether a value, whatever it is, is a chain of a parting."""
    if not isinstance(value, tuple) or not all(_is_part(parting, part) for part in value):
        return False
    if not all([len(part[0]) == len(value[0][0]) for part in value]):
        return False
    return all([part[0] < later[0] for part, later in zip(value, value[1:])])


def _is_part(parting, value):
    """Whether a value is a pair of a face of a parting and a fraction other than 0."""
    if not isinstance(value, tuple) or len(value) != 2:
        return False
    return is_face_in(parting, value[0]) and is_fraction(value[1]) and value[1] != NIL


def check_chain(parting, chain):
    """Refuse what is no chain of a parting."""
    if not is_chain(parting, chain):
        raise InvalidChain(chain)


def check_beside_lot(parting, held, chain):
    """Refuse what are no parting, no faces of it, and no chain of it."""
    check_parting(parting)
    check_held(parting, held)
    check_chain(parting, chain)


def border(parting, chain):
    """The border of a chain."""
    check_parting(parting)
    check_chain(parting, chain)
    return chain_from(border_of(chain, {}))


def is_round(parting, held, chain):
    """Whether a chain is a round beside a held lot."""
    check_beside_lot(parting, held, chain)
    return not border_of(chain, lot_of(held))


def rounds_of(parting, held, dimension):
    """The base in stairs of the rounds of a dimension beside a held lot."""
    check_parting(parting)
    check_held(parting, held)
    check_dimension(dimension, 0, parting[0])
    lot = lot_of(held)
    rows = []
    for face in faces_in(parting, dimension):
        sides = border_row(face, lot)
        row = {(0, side): sides[side] for side in sides}
        row[(1, face)] = ONE
        rows.append(row)
    return tuple([chain_from({key[1]: turn[key] for key in turn}) for turn in stairs_of(rows, (1,))])


def holes(parting, held, dimension):
    """How many free rounds of a dimension there are beside a held lot, less how many free ones that bound."""
    check_parting(parting)
    check_held(parting, held)
    check_dimension(dimension, 0, parting[0])
    lot = lot_of(held)
    borders = borders_free(parting, lot, dimension)
    return len(borders) - len(free_among(borders)) - len(free_among(borders_free(parting, lot, dimension + 1)))


def faces_free(parting, lot, dimension):
    """The faces of a dimension that are not held; none above the dimension of the parting."""
    if dimension > parting[0]:
        return []
    return [face for face in faces_in(parting, dimension) if face not in lot]


def borders_free(parting, lot, dimension):
    """The borders of the faces of a dimension that are not held, without held faces, as rows."""
    return [border_row(face, lot) for face in faces_free(parting, lot, dimension)]


def bounding(parting, held, chain):
    """A chain whose border, less the chain, is held; None if there is none."""
    check_beside_lot(parting, held, chain)
    lot = lot_of(held)
    told = chain_row(chain, lot)
    if not told:
        return ()
    more = len(chain[0][0])
    numbers = numbers_adding(borders_free(parting, lot, more), told)
    if numbers is None:
        return None
    faces = faces_free(parting, lot, more)
    return chain_from({faces[at]: numbers[at] for at in numbers})


def weights_against(parting, held, chain):
    """Weights that make 0 of the borders of all faces of one dimension more but not of a chain; None if it bounds."""
    check_beside_lot(parting, held, chain)
    lot = lot_of(held)
    told = chain_row(chain, lot)
    if not told:
        return None
    weights = weights_parting(borders_free(parting, lot, len(chain[0][0])), told)
    return None if weights is None else chain_from(weights)
