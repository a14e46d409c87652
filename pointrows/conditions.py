"""Conditions that points make on the forms of a degree, and the forms that pass all of them."""

from pointrows.basics import is_list
from pointrows.checks import check_degree
from pointrows.elimination import rank
from pointrows.forms import Form
from pointrows.kernels import greatest, kernel
from pointrows.lines import passed
from pointrows.plain import plain
from pointrows.points import check_spots
from pointrows.terms import terms_of, triples_of, worths_of

MOST_CONDITIONS_DEGREE = 9


def check_spots_degree(spots, degree):
    """InvalidSpots unless Spots, InvalidDegree unless a COUNT to 9."""
    check_spots(spots)
    check_degree(degree, MOST_CONDITIONS_DEGREE)


def condition_rows(spots, degree):
    """The list of the points' conditions on forms of the degree, by positions."""
    return [worths_of(triples_of(degree), degree, point) for point in spots.points()]


def conditions(spots, degree):
    """How many of the points' conditions on forms of the degree are independent."""
    check_spots_degree(spots, degree)
    return rank(condition_rows(spots, degree))


def forms_through(spots, degree):
    """Independent plain forms of the degree, of which all that pass all points are sums of multiples, short ones."""
    check_spots_degree(spots, degree)
    triples = triples_of(degree)
    return [Form(degree, terms_of(triples, plain(numbers)))
            for numbers in kernel(condition_rows(spots, degree), len(triples))]


def is_forms_through(spots, degree, value):
    """Whether any value is a list of such forms as forms_through tells."""
    check_spots_degree(spots, degree)
    many = len(triples_of(degree)) - conditions(spots, degree)
    if not is_list(value) or len(value) != many:
        return False
    if not all([is_form_through(spots, degree, form) for form in value]):
        return False
    return rank([form_numbers(form) for form in value]) == many


def is_form_through(spots, degree, value):
    """Whether any value is a form of the degree that passes all points."""
    return isinstance(value, Form) and value.degree == degree and len(passed(spots, value)) == spots.size


def form_numbers(form):
    """The list of the form's numbers for all triples of its degree, falling."""
    terms = form.terms()
    return [terms.get(triple, 0) for triple in triples_of(form.degree)]


def form_size(form):
    """The greatest number of a form that is not nought, whatever its sign."""
    return greatest(form_numbers(form))
