"""Measures by weights, their tables, and what these settle. Nothing is checked here."""

from math import gcd, lcm

from cellrises.arithmetic import NIL, ONE, fraction_of, fraction_product, fraction_sum, fraction_times
from cellrises.formrows import forms_from, row_behind, table_behind
from cellrises.led import trace_on
from cellrises.polynomials import sum_of_powers
from cellrises.rows import free_among, stairs_of
from cellrises.terms import add_at, axes_together, form_from, powers_together


def table_rows(forms, weights):
    """The table of forms and weights, each row a list."""
    # Forms share most of their terms: each is led to a face, and weighed there, but once.
    terms = {term[:2]: (form[0], form[1], ((term[0], term[1], ONE),)) for form in forms for term in form[2]}
    traces = {}
    rows = []
    for face, test in weights:
        if face not in traces:
            traces[face] = {pair: trace_on(terms[pair], face)[2] for pair in terms}
        worths = _worths_with(traces[face], test)
        rows.append([_total_of(form[2], worths) for form in forms])
    return rows


def _worths_with(traces, test):
    """The sums over the cell of the products of traces, told by their terms, and a test, noughts left out."""
    single = {}
    found = {}
    for pair in traces:
        for axes, powers, _ in traces[pair]:
            if (axes, powers) not in single:
                single[(axes, powers)] = _sum_with(axes, powers, test)
        worth = _total_of(traces[pair], single)
        if worth != NIL:
            found[pair] = worth
    return found


def _total_of(terms, worths):
    """The sum of what terms are worth, given what they are with the number 1; what is not there is worth nothing."""
    total = NIL
    for axes, powers, fraction in terms:
        if (axes, powers) in worths:
            total = fraction_sum(total, fraction_product(fraction, worths[(axes, powers)]))
    return total


def _sum_with(axes, powers, test):
    """The sum over the cell of the product of a term with the number 1 and a test."""
    total = NIL
    for others, more, fraction in test[2]:
        _, sign = axes_together(axes, others)
        if sign != 0:
            share = sum_of_powers(powers_together(powers, more))
            total = fraction_sum(total, fraction_times(fraction_product(fraction, share), sign))
    return total


def whole_form(form):
    """A form in whole numbers without a common divisor, a multiple of the form, and by what that was multiplied."""
    below, above = 1, 0
    for _, _, fraction in form[2]:
        below = lcm(below, fraction[1])
    for _, _, fraction in form[2]:
        above = gcd(above, fraction[0] * (below // fraction[1]))
    factor = fraction_of(below, above) if above else (1, 1)
    table = {(axes, powers): fraction_product(fraction, factor) for axes, powers, fraction in form[2]}
    return (form_from(form[0], form[1], table), factor)


def whole_forms(forms):
    """Multiples of forms in whole numbers: their span is the same one, and elimination is lighter."""
    return [whole_form(form)[0] for form in forms]


def whole_weights(weights):
    """Multiples of weights in whole numbers, and by what they were multiplied."""
    found, factors = [], []
    for face, test in weights:
        own, factor = whole_form(test)
        found.append((face, own))
        factors.append(factor)
    return (found, factors)


def row_ahead(numbers):
    """A row for elimination, of numbers at their places; all keys (1, ..) are free for what is to stand behind."""
    return {(0, at): number for at, number in enumerate(numbers) if number != NIL}


def _are_all_ahead(rows, many):
    """Whether rows in stairs begin at so many places, each with its own."""
    return [min(row) for row in rows] == [(0, at) for at in range(many)]


def turned(rows, many):
    """The columns of rows of so many numbers each."""
    return [[row[at] for row in rows] for at in range(many)]


def is_settling(forms, weights):
    """Whether weights settle forms."""
    if len(forms) != len(weights):
        return False
    lighter, _ = whole_weights(weights)
    rows = [row_ahead(row) for row in table_rows(whole_forms(forms), lighter)]
    return len(free_among(rows)) == len(rows)


def rows_with_measures(forms, weights):
    """Rows of forms, their measures ahead of all terms."""
    rows = []
    for form, measures in zip(forms, turned(table_rows(forms, weights), len(forms))):
        row = row_behind(form)
        ahead = row_ahead(measures)
        for key in ahead:
            row[key] = ahead[key]
        rows.append(row)
    return rows


def settled_forms(forms, weights):
    """For each weight the form with the measure 1 by it and 0 by the others; None if they do not settle."""
    if len(forms) != len(weights):
        return None
    lighter, factors = whole_weights(weights)
    rows = stairs_of(rows_with_measures(whole_forms(forms), lighter))
    if not _are_all_ahead(rows, len(weights)):
        return None
    tables = []
    for row, factor in zip(rows, factors):
        table = table_behind(row)
        tables.append({pair: fraction_product(table[pair], factor) for pair in table})
    return forms_from(forms[0], tables)


def numbers_with(rows, numbers):
    """By which numbers the columns of rows add up to the told ones; None if the rows, as many, have no inverse."""
    told = []
    for row, number in zip(rows, numbers):
        longer = row_ahead(row)
        if number != NIL:
            longer[(1,)] = number
        told.append(longer)
    stairs = stairs_of(told)
    return [each.get((1,), NIL) for each in stairs] if _are_all_ahead(stairs, len(rows)) else None


def form_measuring(forms, weights, numbers):
    """The form of the span of forms with these measures by weights; None if they do not settle."""
    if len(forms) != len(weights):
        return None
    lighter, factors = whole_weights(weights)
    wholes = whole_forms(forms)
    worths = [fraction_product(number, factor) for number, factor in zip(numbers, factors)]
    found = numbers_with(table_rows(wholes, lighter), worths)
    return None if found is None else sum_with_numbers(wholes, found)


def sum_with_numbers(forms, numbers):
    """The sum of one or more forms times numbers."""
    table = {}
    for form, number in zip(forms, numbers):
        for axes, powers, fraction in form[2]:
            add_at(table, (axes, powers), fraction_product(fraction, number))
    return form_from(forms[0][0], forms[0][1], table)
