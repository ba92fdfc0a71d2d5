"""Whether a row is a sum of multiples of other rows: by which numbers it is, or by which weights it is none.

Rows are dicts from keys to fractions, not 0; a key that is not there stands for 0. Nothing is checked here.
"""

from cellrises.arithmetic import ONE, fraction_times
from cellrises.rows import stairs_of


def numbers_adding(rows, told):
    """By which numbers, by indexes of rows, these add up to the told one, noughts left out; None if they do not."""
    tagged = [_tagged(row, (2, at)) for at, row in enumerate(rows)]
    tagged.append(_tagged(told, (1, 0)))
    first = _first_behind(tagged)
    if (1, 0) not in first:
        return None
    return {key[1]: fraction_times(first[key], -1) for key in first if key[0] == 2}


def weights_parting(rows, told):
    """Weights, not 0, by keys, which make 0 of all rows but not of the told one; None if there are none."""
    columns = {}
    for at, row in enumerate(rows):
        for key in row:
            column = columns.setdefault(key, {})
            column[(0, at)] = row[key]
    for key in told:
        column = columns.setdefault(key, {})
        column[(1, 0)] = told[key]
    first = _first_behind([_longer(columns[key], (2, key)) for key in columns])
    return {key[1]: first[key] for key in first if key[0] == 2} if (1, 0) in first else None


def _tagged(row, tag):
    """A row behind keys (0, ..), with the number 1 at a tag."""
    return _longer({(0, key): row[key] for key in row}, tag)


def _longer(row, tag):
    """A row with the number 1 at a tag, too."""
    found = {key: row[key] for key in row}
    found[tag] = ONE
    return found


def _first_behind(rows):
    """The first row in stairs of what the span of rows has without keys (0, ..); empty if this is nought alone."""
    stairs = stairs_of(rows, (1,))
    return stairs[0] if stairs else {}
