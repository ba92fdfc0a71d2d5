"""Faces of cells, forms led by straight maps, traces, and sums over faces."""

from itertools import combinations

from cellrises.arithmetic import NIL, ONE, fraction_product, fraction_sum, fraction_times
from cellrises.arithmetic import is_ascending, is_between, is_fraction
from cellrises.checks import check_dimension, check_least
from cellrises.errors import InvalidCorners, InvalidFace
from cellrises.forms import check_form, sum_of
from cellrises.polynomials import over_one, substituted
from cellrises.terms import add_at, axes_together, form_from


def is_face(dimension, value):
    """Whether a value, whatever it is, is a face of the cell of the dimension."""
    check_dimension(dimension)
    return is_ascending(value, 0, dimension) and len(value) > 0


def faces_of(dimension, least):
    """All faces of the cell of a dimension whose dimensions are from `least` on, in order."""
    check_dimension(dimension)
    check_least(least, dimension)
    found = []
    for size in range(least + 1, dimension + 2):
        found.extend(list(combinations(range(dimension + 1), size)))
    return tuple(found)


def led(form, corners):
    """The form led by the straight map that leads the corners of a cell, in order, to these places."""
    check_form(form)
    if not _are_places(form, corners):
        raise InvalidCorners(corners)
    return led_form(form, corners)


def _are_places(form, value):
    """Whether a value is a tuple of places of a form's cell, enough of them for its sort, 4 at most."""
    if not isinstance(value, tuple) or not is_between(len(value), form[1] + 1, 4):
        return False
    if not all(isinstance(place, tuple) and len(place) == form[0] for place in value):
        return False
    return all([is_fraction(number) for place in value for number in place])


def check_face(form, face):
    """Refuse what is no face of the form's cell, or of a dimension below the form's sort."""
    if not is_face(form[0], face) or len(face) - 1 < form[1]:
        raise InvalidFace(face)


def trace(form, face):
    """The trace of a form on a face."""
    check_form(form)
    check_face(form, face)
    return trace_on(form, face)


def sum_over(form, face):
    """The sum of a form over a face whose dimension is the form's sort."""
    check_form(form)
    check_face(form, face)
    if len(face) - 1 > form[1]:
        raise InvalidFace(face)
    return sum_of(trace_on(form, face))


def trace_on(form, face):
    """The trace of a form on a face; nothing is checked."""
    return led_form(form, [_corner_place(form[0], corner) for corner in face])


def _corner_place(dimension, corner):
    """The place of a corner of the cell of a dimension."""
    return tuple([ONE if axis == corner else NIL for axis in range(1, dimension + 1)])


def led_form(form, places):
    """The form led by the straight map that leads corners to these places; nothing is checked."""
    begin, steps = places[0], [_difference(place, places[0]) for place in places[1:]]
    dimension = len(steps)
    numbers = [over_one(_number_of_map(begin[at], [step[at] for step in steps])) for at in range(form[0])]
    table = {}
    for axes, polynomial in _polynomials_by_axes(form).items():
        worths = substituted(polynomial, numbers, dimension)
        for others, factor in _led_axes(axes, steps).items():
            for powers, fraction in worths.items():
                add_at(table, (others, powers), fraction_product(fraction, factor))
    return form_from(dimension, form[1], table)


def _difference(place, begin):
    """The arrow from one place to another one."""
    return tuple([fraction_sum(far, fraction_times(near, -1)) for far, near in zip(place, begin)])


def _number_of_map(begin, steps):
    """The polynomial for one number of a straight map, given what it is at the begin and how it steps."""
    still = (0,) * len(steps)
    found = {still: begin}
    for at, step in enumerate(steps):
        found[still[:at] + (1,) + still[at + 1:]] = step
    return {powers: found[powers] for powers in found if found[powers] != NIL}


def _polynomials_by_axes(form):
    """The polynomials that stand on the axes of a form's terms."""
    found = {}
    for axes, powers, fraction in form[2]:
        polynomial = found.setdefault(axes, {})
        polynomial[powers] = fraction
    return found


def _led_axes(axes, steps):
    """To what dx of axes is led: fractions by axes of the smaller cell."""
    found = {(): ONE}
    for axis in axes:
        longer = {}
        for others, factor in found.items():
            for at, step in enumerate(steps, start=1):
                both, sign = axes_together(others, (at,))
                if sign != 0:
                    add_at(longer, both, fraction_times(fraction_product(factor, step[axis - 1]), sign))
        found = longer
    return found
