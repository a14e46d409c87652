"""The ninth point that two forms of degree 3 have in common, if they pass eight points."""

from pointrows.conditions import form_numbers, forms_through
from pointrows.elimination import rank, solved
from pointrows.errors import NoNinth, NotEight
from pointrows.forms import Form, letter_forms
from pointrows.points import check_spots, is_point, told_point
from pointrows.products import no_common
from pointrows.rows import numbers_of
from pointrows.terms import triples_of

ROW_OF_EIGHT = [1, 2, 3, 2]


def ninth(spots):
    """The ninth point of eight, told."""
    check_spots(spots)
    if spots.size != 8:
        raise NotEight()
    if numbers_of(spots) != ROW_OF_EIGHT:
        raise NoNinth()
    form, other = forms_through(spots, 3)
    if not no_common(form, other):
        raise NoNinth()
    point = last_common(spots, form, other)
    if spots.place(point) is not None:
        raise NoNinth()
    return point


def is_ninth(spots, value):
    """Whether any value is a point, the same as the ninth one."""
    point = ninth(spots)
    return is_point(value) and told_point(value) == point


def last_common(spots, form, other):
    """The told point that both forms of degree 3 have in common beside the eight points.

    A line passes it exactly if the line times a form of degree 4 through the eight points, which is no sum of both
    forms times lines, is a sum of both forms times forms of degree 2. So modulo these sums the products of x, y, z with
    that form are to one another as the numbers of the point.
    """
    parts = products_of((form, other), letter_forms())
    quartic = [one for one in forms_through(spots, 4) if rank(numbers_of_forms([*parts, one])) > len(parts)][0]
    sums = products_of((form, other), [Form(2, {triple: 1}) for triple in triples_of(2)])
    columns = numbers_of_forms([*sums, *products_of((quartic,), letter_forms())])
    rows = solved([list(numbers) for numbers in zip(*columns)], len(columns))[1]
    return told_point(rows[-1][len(sums):])


def products_of(forms, others):
    """The list of the products of each of the forms with each of the others."""
    return [form * other for form in forms for other in others]


def numbers_of_forms(forms):
    """For each of the forms, which have one degree, the list of its numbers."""
    return [form_numbers(form) for form in forms]
