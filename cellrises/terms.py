"""Terms of forms as tables: dicts from pairs (AXES, POWERS) to fractions. Nothing is checked here."""

from cellrises.arithmetic import NIL, fraction_sum


def terms_by_pair(form):
    """The table of a form."""
    return {(axes, powers): fraction for axes, powers, fraction in form[2]}


def form_from(dimension, sort, table):
    """The form with the terms of a table; its noughts are left out."""
    pairs = sorted([pair for pair in table if table[pair] != NIL])
    return (dimension, sort, tuple([(axes, powers, table[(axes, powers)]) for axes, powers in pairs]))


def add_at(table, key, fraction):
    """Add a fraction to what a table has at a key."""
    table[key] = fraction_sum(table.get(key, NIL), fraction)


def axes_together(axes, others):
    """The axes of both in order, and the sign of their product: 0 if one stands in both."""
    swaps = 0
    for axis in axes:
        if axis in others:
            return ((), 0)
        swaps += len([other for other in others if other < axis])
    return (tuple(sorted(axes + others)), -1 if swaps % 2 else 1)


def powers_together(powers, others):
    """The powers of the product of two polynomials of one term."""
    return tuple([power + other for power, other in zip(powers, others)])


def powers_changed(powers, axis, change):
    """The powers with that of one axis changed."""
    return powers[:axis - 1] + (powers[axis - 1] + change,) + powers[axis:]
