"""Partings: what they are, their faces, and what two cells share."""

from cellrises.arithmetic import is_ascending, is_between
from cellrises.checks import check_dimension
from cellrises.errors import InvalidIndex, InvalidParting
from cellrises.landfaces import common_corners, face_of_cell
from cellrises.led import faces_of


def is_parting(value):
    """Whether a value, whatever it is, is a parting."""
    if not isinstance(value, tuple) or len(value) != 2:
        return False
    dimension, cells = value
    if not is_between(dimension, 1, 3) or not isinstance(cells, tuple) or not is_between(len(cells), 1, 12):
        return False
    if not all(is_ascending(cell, 0, 999) and len(cell) == dimension + 1 for cell in cells):
        return False
    return all([cell < later for cell, later in zip(cells, cells[1:])])


def check_parting(parting):
    """Refuse what is no parting."""
    if not is_parting(parting):
        raise InvalidParting(parting)


def faces_in(parting, dimension):
    """All faces of a parting of a dimension, in order."""
    check_parting(parting)
    check_dimension(dimension, 0, parting[0])
    found = {}
    for face in faces_of(parting[0], dimension):
        if len(face) == dimension + 1:
            for cell in parting[1]:
                found[face_of_cell(cell, face)] = True
    return tuple(sorted(found))


def common_face(parting, index, other):
    """The face that two cells share; () for none."""
    check_parting(parting)
    _check_index(parting, index)
    _check_index(parting, other)
    return common_corners(parting[1][index], parting[1][other])


def _check_index(parting, index):
    """Refuse what is no index of a cell."""
    if not is_between(index, 0, len(parting[1]) - 1):
        raise InvalidIndex(index)
