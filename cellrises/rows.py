"""Spans of rows: dicts from keys to fractions, not 0; a key that is not there stands for 0.

Inside, rows are dicts from columns, the places of keys in order, to whole numbers without a common divisor:
so numbers grow no further than they must.
"""

from math import gcd, lcm

from cellrises.arithmetic import fraction_of

_PRIME = 2305843009213693951


def stairs_of(rows, bound=()):
    """The base in stairs of what the span of rows has with all keys from `bound` on."""
    columns = _columns_of(rows)
    wholes, scales = _whole_rows(rows, columns)
    least = len([key for key in columns if key < bound])
    leads = _leads_of(wholes, len(columns))
    return [_divided(row, columns, scales) for row in _reduced(leads, least)]


def free_among(rows):
    """The indexes of the rows that are not in the span of those before them."""
    columns = _columns_of(rows)
    wholes, _ = _whole_rows(rows, columns)
    if _are_free_by_remainders(wholes):
        return list(range(len(rows)))
    leads, found = {}, []
    for index, row in enumerate(wholes):
        if _taken_in(row, leads, len(columns)):
            found.append(index)
    return found


def _are_free_by_remainders(rows):
    """Whether the remainders of rows in whole numbers beside a prime are free: then so are the rows."""
    # What adds up to nought without a common divisor does so in remainders, too, and there not all is 0.
    leads = {}
    for row in rows:
        rest = {column: row[column] % _PRIME for column in row if row[column] % _PRIME}
        while rest and min(rest) in leads:
            _take_remainders(rest, leads[min(rest)])
        if not rest:
            return False
        factor = _inverse(rest[min(rest)])
        leads[min(rest)] = {column: rest[column] * factor % _PRIME for column in rest}
    return True


def _take_remainders(row, lead):
    """Take from a row of remainders the multiple of a lead, with 1 at its first, that leaves 0 there."""
    factor = row[min(lead)]
    for column in lead:
        rest = (row.get(column, 0) - factor * lead[column]) % _PRIME
        if rest:
            row[column] = rest
        else:
            del row[column]


def _inverse(number):
    """The remainder that a number, no multiple of the prime, has to be multiplied by to make the remainder 1."""
    near, far = number, _PRIME
    times, others = 1, 0
    while far:
        whole = near // far
        near, far = far, near - whole * far
        times, others = others, times - whole * others
    return times % _PRIME


def first_outside(rows, others):
    """The index of the first row that is not in the span of the others; None."""
    together = others + rows
    columns = _columns_of(together)
    wholes, _ = _whole_rows(together, columns)
    leads = _leads_of(wholes[:len(others)], len(columns))
    for index, row in enumerate(wholes[len(others):]):
        if _taken_in(row, leads, len(columns)):
            return index
    return None


def _columns_of(rows):
    """All keys of rows, in order."""
    return sorted({key for row in rows for key in row})


def _whole_rows(rows, columns):
    """The rows in whole numbers, and by which number each column was multiplied for that.

    Few rows are freed of denominators by columns, many by rows: what has to be multiplied remains small.
    """
    by_columns = len(rows) < len(columns)
    scales = [1] * len(columns)
    places = {key: place for place, key in enumerate(columns)}
    if by_columns:
        for row in rows:
            for key in row:
                scales[places[key]] = lcm(scales[places[key]], row[key][1])
    wholes = []
    for row in rows:
        factor = 1 if by_columns else _common_denominator(row)
        found = {}
        for key, (above, below) in row.items():
            found[places[key]] = above * (scales[places[key]] * factor // below)
        wholes.append(_lightened(found))
    return (wholes, scales)


def _common_denominator(row):
    """The least number that makes all fractions of a row whole."""
    found = 1
    for _, below in row.values():
        found = lcm(found, below)
    return found


def _lightened(row):
    """A row divided by the greatest divisor of all of its numbers."""
    shared = 0
    for number in row.values():
        shared = gcd(shared, number)
        if shared == 1:
            return row
    return {column: row[column] // shared for column in row}


def _without(row, lead, column):
    """A row that has the column, times a number, less a multiple of a lead, so that it has it no more."""
    shared = gcd(row[column], lead[column])
    times, less = lead[column] // shared, row[column] // shared
    found = {each: times * row[each] for each in row}
    for each in lead:
        rest = found.get(each, 0) - less * lead[each]
        if rest != 0:
            found[each] = rest
        else:
            del found[each]
    return _lightened(found)


def _remainder(row, leads):
    """What leads leave of a row: empty, or with a first column that none of them has as its first."""
    while row:
        first = min(row)
        if first not in leads:
            return row
        row = _without(row, leads[first], first)
    return row


def _taken_in(row, leads, many):
    """Whether a row is not in the span of leads; then what they leave of it becomes one of them."""
    # As many leads as columns leave nothing of any row: this need not be worked out.
    rest = _remainder(row, leads) if len(leads) < many else {}
    if rest:
        leads[min(rest)] = rest
    return len(rest) > 0


def _leads_of(rows, many):
    """Free rows with the span of all, by their first columns, which are unlike, `many` at most."""
    leads = {}
    for row in rows:
        _taken_in(row, leads, many)
    return leads


def _reduced(leads, least):
    """The leads from a column on, in order, none of them with the first column of another one."""
    found = {}
    for first in sorted(leads, reverse=True):
        if first >= least:
            found[first] = _freed(leads[first], found)
    return [found[first] for first in sorted(found)]


def _freed(row, leads):
    """A row without the first columns of leads that have none of one another's."""
    found = row
    for column in row:
        if column in leads:
            found = _without(found, leads[column], column)
    return found


def _divided(row, columns, scales):
    """A row by its keys again, in fractions, its first number being 1."""
    first = min(row)
    found = {}
    for column in row:
        found[columns[column]] = fraction_of(row[column] * scales[first], row[first] * scales[column])
    return found
