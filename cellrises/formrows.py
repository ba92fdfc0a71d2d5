"""Forms as rows for elimination, and back. A model tells, as its first two parts, a dimension and a sort."""

from cellrises.rows import free_among, stairs_of
from cellrises.terms import form_from, terms_by_pair


def tables_of(forms):
    """The tables of forms."""
    return [terms_by_pair(form) for form in forms]


def forms_from(model, tables):
    """Forms of the dimension and sort of a model, with the terms of tables."""
    return tuple([form_from(model[0], model[1], table) for table in tables])


def free_forms(forms):
    """Those of forms that are not in the span of those before them."""
    return [forms[index] for index in free_among(tables_of(forms))]


def base_in_stairs(model, forms):
    """The base in stairs of any number of forms, 0 let, of the dimension and sort of a model."""
    return forms_from(model, stairs_of(tables_of(forms)))


def row_behind(form):
    """A row of the terms of a form that leaves all keys (0, ..) free for what is to stand ahead of them."""
    return {(1, (axes, powers)): fraction for axes, powers, fraction in form[2]}


def table_behind(row):
    """The table of the terms in a row of which some keys (0, ..) may stand ahead."""
    return {key[1]: row[key] for key in row if key[0] == 1}


def forms_behind(model, rows):
    """The base in stairs of the forms that the span of rows has with nothing ahead."""
    return forms_from(model, [table_behind(row) for row in stairs_of(rows, (1,))])
