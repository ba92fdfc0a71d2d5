"""Closed forms, and forms whose rises they are."""

from cellrises.arithmetic import fraction_product
from cellrises.errors import InvalidForm
from cellrises.forms import check_form, lowered, rise
from cellrises.terms import form_from


def is_closed(form):
    """Whether a form is closed."""
    check_form(form)
    return form[0] == form[1] or rise(form)[2] == ()


def risen_from(form):
    """A form whose rise is the form, of a sort from 1 on; None if there is none."""
    check_form(form)
    if form[1] == 0:
        raise InvalidForm(form)
    if not is_closed(form):
        return None
    # Lowered, a part of the degree r is a form whose rise is r + j times the part.
    shares = {}
    for axes, powers, fraction in form[2]:
        shares[(axes, powers)] = fraction_product(fraction, (1, sum(powers) + form[1]))
    return lowered(form_from(form[0], form[1], shares))
