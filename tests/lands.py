"""What the tests of lands share: partings, held lots, chains, cell forms, and another way to reckon with them."""

from fractions import Fraction
from functools import lru_cache
from itertools import combinations

from cellrises.elements import told_element, told_tests, weights_of
from cellrises.forms import plus, times_number
from cellrises.led import trace
from cellrises.measures import base_beside
from tests.helpers import (
    as_pair, bent, chances, junk, made_form, number, numbers_of_form, rank_of_numbers, together, wrong_fractions,
)
from tests.weighing import BIG, reckoned

SQUARE, RING, LINE = (2, ((0, 1, 2), (1, 2, 3))), (1, ((0, 1), (0, 2), (1, 2))), (1, ((0, 1),))
BOTH = (3, ((0, 1, 2, 3), (0, 1, 2, 4)))
MANY = (1, tuple((0, at) for at in range(1, 13)))
HOLLOW = (2, ((0, 1, 2), (0, 1, 3), (0, 2, 3), (1, 2, 3)))
BAND = (2, ((0, 1, 2), (0, 1, 4), (0, 3, 4), (1, 2, 3), (2, 3, 4)))
CROSS_CAP = (2, ((0, 1, 2), (0, 1, 5), (0, 2, 3), (0, 3, 4), (0, 4, 5), (1, 2, 4), (1, 3, 4), (1, 3, 5), (2, 3, 5), (2, 4, 5)))
NECKLACE = (3, ((0, 1, 2, 3), (0, 1, 4, 5), (2, 3, 4, 5)))
SHELL = (3, tuple(combinations(range(5), 4)))
FAN = (2, ((0, 1, 2), (0, 1, 3), (0, 1, 4), (0, 5, 6), (7, 8, 999)))
BOOK = (3, tuple((0, 1, at, at + 1) for at in range(2, 26, 2)))
# How many holes they have without a held lot.
KNOWN = [(SQUARE, (1, 0, 0)), (RING, (1, 1)), (LINE, (1, 0)), (BOTH, (1, 0, 0, 0)), (MANY, (1, 0)), (HOLLOW, (1, 0, 1)),
         (BAND, (1, 1, 0)), (CROSS_CAP, (1, 0, 0)), (NECKLACE, (1, 1, 0, 0)), (SHELL, (1, 0, 0, 1)), (FAN, (2, 0, 0)),
         (BOOK, (1, 0, 0, 0))]
KINDS = [("whole", degree) for degree in range(4)] + [("trimmed", degree) for degree in range(1, 4)]


def made_parting(chance, dimension, most=7):
    """Some parting; now and then corner numbers are far apart, or many cells have one side."""
    numbers = chance.choice((range(most), range(0, 1000, 37), (0, 1, 998, 999, 500, 7)))
    cells = list(combinations(sorted(numbers)[:most], dimension + 1))
    return (dimension, tuple(sorted(chance.sample(cells, min(len(cells), chance.randint(1, 12))))))


def partings():
    """Told partings and made ones."""
    found = [SQUARE, RING, LINE, BOTH, MANY, (1, ((0, 999),)), (2, ((5, 7, 9), (10, 11, 999))), (3, ((0, 1, 2, 3), (3, 4, 5, 6)))]
    found += [(2, ((0, 1, 2), (0, 1, 3), (0, 1, 4), (0, 1, 5))), (3, ((0, 1, 2, 3), (2, 3, 4, 5), (10, 20, 30, 40)))]
    for dimension in (1, 2, 3):
        chance = chances("partings", dimension)
        found += [made_parting(chance, dimension) for _ in range(30)]
    return found


def wrong_partings():
    """Values that are no partings."""
    wrong = junk() + bent(SQUARE) + bent(LINE) + bent(BOTH)
    wrong += [(), (2,), SQUARE[1], (SQUARE[1], 2), (*SQUARE, ()), (2, SQUARE[1], SQUARE[1]), [2, SQUARE[1]], (2, list(SQUARE[1]))]
    wrong += [(0, ((0,), (1,))), (4, ((0, 1, 2, 3, 4),)), (-1, ((),)), (0, ()), (1, ()), (2, ()), (3, ()), (10 ** 300, SQUARE[1])]
    wrong += [(1, SQUARE[1]), (3, SQUARE[1]), (2, ((0, 1), (1, 2))), (2, ((0, 1, 2), (1, 2))), (2, ((0, 1, 2), (1, 2, 3, 4)))]
    wrong += [(2, ((1, 2, 3), (0, 1, 2))), (2, ((0, 1, 2), (0, 1, 2))), (2, ((0, 1, 2), (1, 2, 3), (1, 2, 3)))]
    wrong += [(2, ((0, 2, 1),)), (2, ((0, 1, 1),)), (2, ((2, 1, 0),)), (2, ((-1, 0, 1),)), (2, ((0, 1, 1000),))]
    wrong += [(2, ((0, 1, 2), (1, 2, 1000))), (1, ((0, 10 ** 300),)), (1, ((-10 ** 300, 0),)), (1, (MANY[1][::-1]))]
    wrong += [(1, (*MANY[1], (0, 13))), (1, (*MANY[1], (1, 2))), (1, (*MANY[1], *((at, at + 1) for at in range(1, 200))))]
    wrong += [(2, ((0, 1, 2), [1, 2, 3])), (2, ({0: 1, 1: 2, 2: 3},)), (2, ("012",)), (2, (b"\0\1\2",)), (1, ((0, 1), None))]
    return wrong


def kinds_for(parting):
    """All told kinds of a land, with their sorts."""
    most = 2 if parting[0] == 3 else 3
    return [(kind, degree, sort) for kind, degree in KINDS if degree <= most
            for sort in range(parting[0] + 1) if degree > 0 or sort == parting[0]]


def faces_by_hand(parting, dimension):
    """All faces of a dimension, in order."""
    return sorted({face for cell in parting[1] for face in combinations(cell, dimension + 1)})


def all_faces(parting):
    """All faces, in order."""
    return [face for dimension in range(parting[0] + 1) for face in faces_by_hand(parting, dimension)]


def lot_by_hand(held):
    """All faces of a held lot."""
    return {part for face in held for size in range(1, len(face) + 1) for part in combinations(face, size)}


def made_held(chance, parting):
    """Some held lot: none, a few faces, told more than once, whole cells, or all of them."""
    faces = all_faces(parting)
    lots = [(), (chance.choice(faces),), tuple(chance.choice(faces) for _ in range(chance.randint(2, 6)))]
    lots += [(chance.choice(parting[1]),), tuple(parting[1]), (faces[0],) * 3 + (faces[-1],)]
    return chance.choice(lots)


def some_lands(name, many=6):
    """Partings with held lots: the known ones, and made ones."""
    chance = chances(name)
    for parting, _ in KNOWN:
        yield chance, parting, ()
        yield chance, parting, made_held(chance, parting)
    for dimension in (1, 2, 3):
        for _ in range(many):
            parting = made_parting(chance, dimension)
            yield chance, parting, made_held(chance, parting)


def made_fraction(chance, height=6):
    """Some fraction."""
    return as_pair(Fraction(chance.randint(-height, height), chance.randint(1, height)))


def as_chain(row):
    """The chain of a dict of numbers by faces."""
    return tuple((face, as_pair(row[face])) for face in sorted(row) if row[face] != 0)


def as_row(chain):
    """A chain as a dict of numbers."""
    return {face: number(fraction) for face, fraction in chain}


def made_chain(chance, parting, dimension, many=4):
    """Some chain of a dimension; now and then ()."""
    faces = faces_by_hand(parting, dimension)
    chosen = chance.sample(faces, min(len(faces), chance.randint(0, many)))
    return as_chain({face: Fraction(chance.randint(-5, 5), chance.randint(1, 4)) for face in chosen})


def border_by_hand(row):
    """The border of a dict of numbers by faces, as such a dict."""
    found = {}
    for face, worth in row.items():
        for at in range(len(face)):
            side = face[:at] + face[at + 1:]
            if side:
                found[side] = found.get(side, 0) + (-1) ** at * worth
    return {side: worth for side, worth in found.items() if worth != 0}


def free_row(row, lot):
    """A row without held faces."""
    return {face: worth for face, worth in row.items() if face not in lot and worth != 0}


def borders_by_hand(parting, lot, dimension):
    """The borders of all faces of a dimension, without held faces."""
    return [free_row(border_by_hand({face: Fraction(1)}), lot) for face in faces_by_hand(parting, dimension)]


def holes_by_hand(parting, held, dimension):
    """The holes of a dimension, by ranks."""
    lot = lot_by_hand(held)
    free = [face for face in faces_by_hand(parting, dimension) if face not in lot]
    more = borders_by_hand(parting, lot, dimension + 1) if dimension < parting[0] else []
    own = [free_row(border_by_hand({face: Fraction(1)}), lot) for face in free]
    return len(free) - rank_of_numbers(own) - rank_of_numbers(more)


def solutions(rows, keys):
    """Free dicts of numbers by keys with which each row, a dict, adds up to 0, and all others come of them."""
    leads = {}
    for row in rows:
        row = {key: worth for key, worth in row.items() if worth != 0}
        for key, lead in leads.items():
            row = less(row, lead, key)
        if row:
            key = min(row)
            row = {each: worth / row[key] for each, worth in row.items()}
            leads = {each: less(lead, row, key) for each, lead in leads.items()}
            leads[key] = row
    found = []
    for key in keys:
        if key not in leads:
            found.append({key: Fraction(1), **{each: -lead[key] for each, lead in leads.items() if key in lead}})
    return found


def less(row, lead, key):
    """A row less the multiple of a lead, with 1 at a key, that leaves 0 there."""
    factor = row.get(key, 0)
    found = {each: row.get(each, 0) - factor * lead.get(each, 0) for each in {**row, **lead}} if factor else row
    return {each: worth for each, worth in found.items() if worth != 0}


def cocycles(parting, held, dimension):
    """Numbers by faces of a dimension, 0 at held ones, that make 0 of all borders of faces of one more: free ones."""
    lot = lot_by_hand(held)
    free = [face for face in faces_by_hand(parting, dimension) if face not in lot]
    rows = borders_by_hand(parting, lot, dimension + 1) if dimension < parting[0] else []
    return solutions(rows, free)


def cell_of(parting, face, last=False):
    """The index of the first cell, or of the last one, that has a face."""
    found = [index for index, cell in enumerate(parting[1]) if set(face) <= set(cell)]
    return found[-1] if last else found[0]


def own_corners(cell, face):
    """The corners of its own that a face is for a cell."""
    return tuple(cell.index(each) for each in face)


def trace_there(parting, forms, index, face):
    """The trace of the form on a cell on a face of the parting."""
    return trace(forms[index], own_corners(parting[1][index], face))


def joined_by_hand(parting, forms):
    """Whether on each face all cells that have it have the same trace."""
    for face in all_faces(parting):
        if len(face) > forms[0][1]:
            cells = [index for index, cell in enumerate(parting[1]) if set(face) <= set(cell)]
            if len({trace_there(parting, forms, index, face) for index in cells}) > 1:
                return False
    return True


def places_by_hand(parting, kind, degree, sort):
    """All places of a kind: pairs of a face and an index."""
    tests = told_tests(kind, parting[0], degree, sort)
    return [(face, at) for face in all_faces(parting) for at in range(len(tests[len(face) - 1]))]


@lru_cache(maxsize=None)
def told_base(kind, dimension, degree, sort):
    """The weights of a told element and the base beside them."""
    element = told_element(kind, dimension, degree, sort)
    return weights_of(element), base_beside(element[0], weights_of(element))


def tuple_by_hand(parting, kind, degree, sort, worths):
    """The joined tuple with numbers at places, a dict by pairs of a face and an index; what is not there is 0."""
    weights, base = told_base(kind, parting[0], degree, sort)
    found = []
    for cell in parting[1]:
        numbers, seen = [], {}
        for face, _ in weights:
            at = seen.get(face, 0)
            seen[face] = at + 1
            numbers.append(worths.get((tuple(cell[each] for each in face), at), Fraction(0)))
        found.append(together(base, numbers))
    return tuple(found)


def made_worths(chance, parting, kind, degree, sort, held=()):
    """Some numbers at the places of a kind, 0 at held ones."""
    lot = lot_by_hand(held)
    return {place: Fraction(chance.randint(-6, 6), chance.randint(1, 5)) if place[0] not in lot else Fraction(0)
            for place in places_by_hand(parting, kind, degree, sort)}


def made_joined(chance, parting, kind, degree, sort, held=()):
    """Some joined held tuple of a kind."""
    return tuple_by_hand(parting, kind, degree, sort, made_worths(chance, parting, kind, degree, sort, held))


def whitney(parting, sort, row):
    """The joined tuple of `trimmed` of the degree 1 with sums over faces as told."""
    return tuple_by_hand(parting, "trimmed", 1, sort, {(face, 0): worth for face, worth in row.items()})


def sum_of_tuples(first, second, factor=(1, 1)):
    """The sum of two tuples of forms, cell by cell, the second one times a fraction."""
    return tuple(plus(form, times_number(other, factor)) for form, other in zip(first, second))


def rank_of_tuples(tuples):
    """How many tuples of forms are free."""
    rows = []
    for forms in tuples:
        rows.append({(index, *pair): worth for index, form in enumerate(forms) for pair, worth in numbers_of_form(form).items()})
    return rank_of_numbers(rows)


def unit_tuples(parting, held, kind, degree, sort):
    """The joined held tuples with the number 1 at one place and 0 at all others."""
    lot = lot_by_hand(held)
    free = [place for place in places_by_hand(parting, kind, degree, sort) if place[0] not in lot]
    return [tuple_by_hand(parting, kind, degree, sort, {place: Fraction(1)}) for place in free]


def held_by_hand(parting, held, forms):
    """Whether all traces on held faces are nought."""
    faces = [face for face in lot_by_hand(held) if len(face) > forms[0][1]]
    return all(trace_there(parting, forms, cell_of(parting, face, True), face)[2] == () for face in faces)


def sum_by_hand(parting, forms, chain):
    """The sum along a chain, from values alone."""
    total = Fraction(0)
    for face, fraction in chain:
        index, dot = cell_of(parting, face, True), (len(face) - 1, 0, (((), (0,) * (len(face) - 1), (1, 1)),))
        total += number(fraction) * reckoned(forms[index], (own_corners(parting[1][index], face), dot))
    return total


def wrong_held(parting):
    """Values that are no held lots, with the index that is kept."""
    face, far = parting[1][0], tuple(range(990, 990 + parting[0]))
    found = [(each, None) for each in junk() if not isinstance(each, tuple)] + [([face], None), ({face: face}, None)]
    found += [((face, each), 1) for each in junk() + [(), face[::-1], face + face, far, (1000,), (-1,), [face[0]], (face,)]]
    found += [((face, face[:1], None, ()), 2), (((),), 0), ((face[0],), 0), ((far, None), 0), (face, 0), ((True,), 0)]
    found += [((face[:1], (face[0], True)), 1), (((False,), face), 0), ((face,) * 199 + ((),), 199)]
    return found


def wrong_chains(parting):
    """Values that are no chains."""
    cell, one = parting[1][0], (1, 1)
    side, other = cell[:-1], cell[1:]
    right = ((side, one), (other, (-1, 2)))
    wrong = [each for each in junk() if each != ()] + bent(right)
    wrong += [right[::-1], right + right, (right[0], right[0]), right[0], ((side, one), (side, (2, 1))), (side, other)]
    wrong += [((side, one), (cell, one)), (((cell[0],), one), (cell, one)), ((cell, one), ((cell[0],), one))]
    wrong += [(((), one),), ((side[::-1] + (995,), one),), (((995,), one),), (((True,), one),), ((cell + cell, one),)]
    wrong += [((cell, each),) for each in wrong_fractions()] + [((cell, (0, 1)),), ((side, one), (other, (0, 1)))]
    wrong += [((each, one),) for each in junk()] + [((cell, one, one),), ((cell,),), ((one, cell),), [(cell, one)], {cell: one}]
    return wrong


def wrong_cell_forms(parting, sort):
    """Values that are no tuples of cell forms, with the index that is kept; the first form has the sort."""
    dimension, cells = parting[0], len(parting[1])
    right = ((dimension, sort, ()),) * cells
    found = [(each, None) for each in junk() if not isinstance(each, tuple) or len(each) != cells]
    found += [(list(right), None), (right + right[:1], None), (right[:-1], None), ((), None), (right[0], None)]
    found += [(right[:at] + (each,) + right[at + 1:], at) for at in range(cells)
              for each in (None, True, 5, (), (dimension, sort), (dimension, sort, [], ), (dimension, True, ()), (4, 0, ()), right)]
    found += [(right[:-1] + ((other, own, ()),), cells - 1) for other in range(4) for own in range(other + 1)
              if (other, own) != (dimension, sort) and (cells > 1 or other != dimension)]
    found += [(((dimension, dimension + 1, ()), *right[1:]), 0), ((None,) * cells, 0)]
    found = [(each, index) for each, index in found if not (each == right[0] and cells == 3)]
    return found


def big_joined(chance, parting, kind, degree, sort, held=()):
    """Some joined held tuple with numbers of several hundred figures."""
    worths = made_worths(chance, parting, kind, degree, sort, held)
    return tuple_by_hand(parting, kind, degree, sort, {place: worth * number(BIG) for place, worth in worths.items()})


def made_cell_forms(chance, parting, sort, degree=2):
    """Some cell forms, most likely not joined."""
    return tuple(made_form(chance, parting[0], sort, degree) for _ in parting[1])
