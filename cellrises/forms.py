"""Forms: what they are, their sums, products, rises and lowered forms, and their sums over the cell."""

from cellrises.arithmetic import NIL, fraction_product, fraction_sum, fraction_times
from cellrises.arithmetic import is_ascending, is_between, is_fraction, is_whole
from cellrises.checks import check_fraction
from cellrises.errors import InvalidForm, UnlikeForms
from cellrises.polynomials import sum_of_powers
from cellrises.terms import add_at, axes_together, form_from, powers_changed, powers_together, terms_by_pair


def is_form(value):
    """Whether a value, whatever it is, is a form."""
    if not isinstance(value, tuple) or len(value) != 3:
        return False
    dimension, sort, terms = value
    if not is_between(dimension, 0, 3) or not is_between(sort, 0, dimension):
        return False
    return isinstance(terms, tuple) and _are_terms(dimension, sort, terms)


def _are_terms(dimension, sort, terms):
    """Whether all of a tuple are terms, with ascending pairs."""
    if not all(_is_term(dimension, sort, term) for term in terms):
        return False
    return all([term[:2] < later[:2] for term, later in zip(terms, terms[1:])])


def _is_term(dimension, sort, term):
    """Whether a value is a term of forms of the dimension and the sort."""
    if not isinstance(term, tuple) or len(term) != 3:
        return False
    axes, powers, fraction = term
    if not is_ascending(axes, 1, dimension) or len(axes) != sort:
        return False
    return _are_powers(dimension, powers) and is_fraction(fraction) and fraction != NIL


def _are_powers(dimension, powers):
    """Whether a value is a tuple of as many whole numbers from 0 on as the dimension tells."""
    if not isinstance(powers, tuple) or len(powers) != dimension:
        return False
    return all(is_whole(power) and power >= 0 for power in powers)


def check_form(form):
    """Refuse what is no form."""
    if not is_form(form):
        raise InvalidForm(form)


def degree_of(form):
    """The greatest sum of the powers of a term; None for nought."""
    check_form(form)
    return max([sum(term[1]) for term in form[2]], default=None)


def plus(form, other):
    """The sum of two forms of one dimension and one sort."""
    check_form(form)
    check_form(other)
    if form[:2] != other[:2]:
        raise UnlikeForms()
    table = terms_by_pair(form)
    for axes, powers, fraction in other[2]:
        add_at(table, (axes, powers), fraction)
    return form_from(form[0], form[1], table)


def times_number(form, fraction):
    """A form times a fraction."""
    check_form(form)
    check_fraction(fraction)
    table = {(axes, powers): fraction_product(each, fraction) for axes, powers, each in form[2]}
    return form_from(form[0], form[1], table)


def product(form, other):
    """The product of two forms whose sorts are together at most their dimension."""
    check_form(form)
    check_form(other)
    if form[0] != other[0] or form[1] + other[1] > form[0]:
        raise UnlikeForms()
    table = {}
    for axes, powers, fraction in form[2]:
        for others, more, factor in other[2]:
            both, sign = axes_together(axes, others)
            if sign != 0:
                worth = fraction_times(fraction_product(fraction, factor), sign)
                add_at(table, (both, powers_together(powers, more)), worth)
    return form_from(form[0], form[1] + other[1], table)


def rise(form):
    """The rise of a form of a sort below its dimension."""
    check_form(form)
    if form[1] == form[0]:
        raise InvalidForm(form)
    table = {}
    for axes, powers, fraction in form[2]:
        for axis, power in enumerate(powers, start=1):
            both, sign = axes_together((axis,), axes)
            if sign * power != 0:
                pair = (both, powers_changed(powers, axis, -1))
                add_at(table, pair, fraction_times(fraction, sign * power))
    return form_from(form[0], form[1] + 1, table)


def lowered(form):
    """The lowered form of one of a sort from 1 on."""
    check_form(form)
    if form[1] == 0:
        raise InvalidForm(form)
    table = {}
    for axes, powers, fraction in form[2]:
        for at, axis in enumerate(axes):
            pair = (axes[:at] + axes[at + 1:], powers_changed(powers, axis, 1))
            add_at(table, pair, fraction_times(fraction, -1 if at % 2 else 1))
    return form_from(form[0], form[1] - 1, table)


def sum_of(form):
    """The sum over the cell of a form whose sort is its dimension."""
    check_form(form)
    if form[1] != form[0]:
        raise InvalidForm(form)
    total = NIL
    for _, powers, fraction in form[2]:
        total = fraction_sum(total, fraction_product(fraction, sum_of_powers(powers)))
    return total
