"""Claims with papers for the checker: of two claims that exclude one another the one that is so."""

from cellrises.arithmetic import NIL
from cellrises.chains import bounding, holes, is_round, weights_against
from cellrises.closed import risen_from
from cellrises.formrows import tables_of
from cellrises.joined import check_cell_forms
from cellrises.measured import parting_form
from cellrises.measures import missed_form, settles, tied_weights
from cellrises.meetings import against_pair, jumping_pair
from cellrises.partings import check_parting
from cellrises.places import first_apart
from cellrises.potentials import barring_round, potential
from cellrises.solving import numbers_adding
from cellrises.spans import check_form_beside, closed_stray
from cellrises.terms import terms_by_pair


def certify_rise(form):
    """A form is a rise, with one whose rise it is; or it is none."""
    found = risen_from(form)
    return (("no rise", form), ()) if found is None else (("rise", form), found)


def certify_within(forms, form):
    """A form is in a span, with numbers; or it is not."""
    check_form_beside(forms, form)
    numbers = numbers_adding(tables_of(forms), terms_by_pair(form))
    if numbers is None:
        return (("without", forms, form), ())
    return (("within", forms, form), tuple([numbers.get(at, NIL) for at in range(len(forms))]))


def certify_exact(forms, others):
    """Two spans are exact; or they are not, with a stray."""
    found = closed_stray(forms, others)
    return (("exact", forms, others), ()) if found is None else (("stray", forms, others), found)


def certify_settling(forms, weights):
    """Weights settle forms; or they miss one, or are tied by numbers; None for forms that are not free else."""
    if settles(forms, weights):
        return (("settles", forms, weights), ())
    missed = missed_form(forms, weights)
    if missed is not None:
        return (("misses", forms, weights), missed)
    numbers = tied_weights(forms, weights)
    return None if numbers is None else (("ties", forms, weights), numbers)


def certify_joining(element):
    """An element joins; or it does not, with a pair that jumps."""
    found = jumping_pair(element)
    return (("joins", element), ()) if found is None else (("jumps", element), found)


def certify_against(element, test):
    """An element joins against a test; or it does not, with a pair that jumps beside it."""
    found = against_pair(element, test)
    return (("joins against", element, test), ()) if found is None else (("jumps against", element, test), found)


def certify_rises(element, other):
    """An element keeps rises beside another one; or it does not, with a form that parts them."""
    found = parting_form(element, other)
    return (("keeps rises", element, other), ()) if found is None else (("parts rises", element, other), found)


def certify_round(parting, held, chain):
    """A chain is a round beside a held lot; or it is none."""
    name = "round" if is_round(parting, held, chain) else "no round"
    return ((name, parting, held, chain), ())


def certify_bounding(parting, held, chain):
    """A chain bounds beside a held lot, with what it bounds; or it does not, with weights against it."""
    found = bounding(parting, held, chain)
    if found is None:
        return (("does not bound", parting, held, chain), weights_against(parting, held, chain))
    return (("bounds", parting, held, chain), found)


def certify_holes(parting, held, dimension):
    """The holes of a dimension beside a held lot are so many."""
    return (("holes", parting, held, dimension, holes(parting, held, dimension)), ())


def certify_joined(parting, joined):
    """Cell forms are joined; or they are not, with two cells whose traces differ."""
    check_parting(parting)
    check_cell_forms(parting, joined)
    found = first_apart(parting, joined)
    return (("joined", parting, joined), ()) if found is None else (("not joined", parting, joined), found)


def certify_risen(parting, held, kind, degree, joined):
    """A closed joined held tuple has a potential; or it has none, with a round that bars it."""
    found = potential(parting, held, kind, degree, joined)
    if found is None:
        return (("not risen", parting, held, kind, degree, joined), barring_round(parting, held, kind, degree, joined))
    return (("risen", parting, held, kind, degree, joined), found)
