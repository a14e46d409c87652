"""What is made of forms: slopes, forms put in tables, parts and quotients."""

from pointrows.checks import check_degree, check_table
from pointrows.common import common_terms
from pointrows.errors import InvalidLetter, NoughtForm
from pointrows.forms import MOST_DEGREE, Form, check_form
from pointrows.plain import plain
from pointrows.terms import LETTER_TRIPLES, divided, terms_of, triples_of

LETTERS = ("x", "y", "z")


def triples(degree):
    """The list of all triples with this sum, falling."""
    check_degree(degree, MOST_DEGREE)
    return triples_of(degree)


def slope(form, letter):
    """The slope of the form by the letter."""
    check_form(form)
    if not isinstance(letter, str) or letter not in LETTERS:
        raise InvalidLetter(letter)
    if form.degree == 0:
        return form - form
    place = LETTERS.index(letter)
    terms = form.terms()
    sloped = {}
    for triple in terms:
        if triple[place] > 0:
            sloped[one_less(triple, place)] = terms[triple] * triple[place]
    return Form(form.degree - 1, sloped)


def one_less(triple, place):
    """The triple with one less at the place, where it is above 0."""
    i, j, k = [count - less for count, less in zip(triple, LETTER_TRIPLES[place])]
    return (i, j, k)


def put_in(form, table):
    """The form in which the sums that the table's rows tell stand for x, y, z."""
    check_form(form)
    check_table(table)
    of_x, of_y, of_z = [form_powers(Form(1, terms_of(LETTER_TRIPLES, row)), form.degree) for row in table]
    terms = form.terms()
    total = form - form
    for i, j, k in terms:
        total = total + (of_x[i] * of_y[j] * of_z[k]).times(terms[(i, j, k)])
    return total


def form_powers(form, most):
    """The list of the powers of the form, from the one of 0 to that of most."""
    found = [Form(0, {(0, 0, 0): 1})]
    for _ in range(most):
        found.append(found[-1] * form)
    return found


def primitive(form):
    """The plain form that is the form up to a number; nought stays nought."""
    check_form(form)
    if form.is_nought:
        return form
    return Form(form.degree, plain_terms(form))


def plain_terms(form):
    """The terms of the plain form, not nought, that is the form up to a number."""
    terms = form.terms()
    return terms_of(list(terms), plain(list(terms.values())))


def quotient(form, other):
    """The plain form that, times the other one, is the form up to a number; None if the other one is no part."""
    check_form(form)
    check_form(other)
    if form.is_nought or other.is_nought:
        raise NoughtForm()
    # A product of plain forms is plain, so a quotient of plain forms has INTEGERS, or there is none.
    found = divided(plain_terms(form), plain_terms(other))
    return None if found is None else Form(form.degree - other.degree, found)


def common_form(form, other):
    """The common part of both, plain."""
    check_form(form)
    check_form(other)
    if form.is_nought and other.is_nought:
        raise NoughtForm()
    if form.is_nought or other.is_nought:
        return primitive(other if form.is_nought else form)
    shared = common_terms(plain_terms(form), plain_terms(other))
    return Form(sum(list(shared)[0]), shared)


def no_common(form, other):
    """Whether both have no common part but numbers."""
    return common_form(form, other).degree == 0
