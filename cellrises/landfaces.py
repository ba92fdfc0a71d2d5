"""Faces of partings, held lots, and borders as rows: dicts from faces to fractions. Nothing is checked here."""

from cellrises.arithmetic import NIL, fraction_product, is_ascending
from cellrises.led import faces_of
from cellrises.terms import add_at


def is_face_in(parting, value):
    """Whether a value, whatever it is, is a face of a parting."""
    if not is_ascending(value, 0, 999) or len(value) == 0:
        return False
    return any([_has_corners(cell, value) for cell in parting[1]])


def _has_corners(cell, face):
    """Whether a cell has all corners of a face."""
    return all([corner in cell for corner in face])


def cell_with(parting, face):
    """The index of the first cell that has a face."""
    return [index for index, cell in enumerate(parting[1]) if _has_corners(cell, face)][0]


def own_face(cell, face):
    """The face of its own corners that a face of a parting is for a cell that has it."""
    return tuple([cell.index(corner) for corner in face])


def face_of_cell(cell, own):
    """The face of a parting that a face of its own corners is for a cell."""
    return tuple([cell[corner] for corner in own])


def common_corners(cell, other):
    """All corners that two cells have."""
    return tuple([corner for corner in cell if corner in other])


def lot_of(held):
    """A held lot: a dict with the told faces and all of their faces as keys."""
    found = {}
    for face in held:
        for own in faces_of(len(face) - 1, 0):
            found[face_of_cell(face, own)] = True
    return found


def border_row(face, lot):
    """The border of a face, without held faces."""
    found = {}
    for at in range(len(face)):
        side = face[:at] + face[at + 1:]
        if side and side not in lot:
            found[side] = (-1 if at % 2 else 1, 1)
    return found


def border_of(chain, lot):
    """The border of a chain, without held faces, as a row."""
    found = {}
    for face, fraction in chain:
        for side, sign in border_row(face, lot).items():
            add_at(found, side, fraction_product(fraction, sign))
    return {side: found[side] for side in found if found[side] != NIL}


def chain_row(chain, lot):
    """A chain without held faces as a row."""
    return {face: fraction for face, fraction in chain if face not in lot}


def chain_from(row):
    """The chain of a row without noughts."""
    return tuple([(face, row[face]) for face in sorted(row)])
