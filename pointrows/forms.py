"""Forms: sums of INTEGERS times products of the letters x, y, z, all of one degree."""

from pointrows.basics import is_count, is_integer
from pointrows.checks import check_degree, check_number
from pointrows.errors import InvalidForm, InvalidTerms, TooMany, UnlikeDegrees
from pointrows.points import told_point
from pointrows.terms import LETTER_TRIPLES, added, multiplied, scaled, worth_of

MOST_DEGREE = 12


def is_triple(value):
    """Whether any value is a tuple of three COUNTS."""
    return isinstance(value, tuple) and len(value) == 3 and all([is_count(number) for number in value])


def is_term(triple, number, degree):
    """Whether two values are a triple with the sum degree and an INTEGER that is not 0."""
    return is_triple(triple) and sum(triple) == degree and is_integer(number) and number != 0


class Form:
    """A form of a degree from 0 to 12: its terms by triples, how often each of x, y, z stands."""

    def __init__(self, degree, terms):
        check_degree(degree, MOST_DEGREE)
        if not isinstance(terms, dict) or not all([is_term(key, terms[key], degree) for key in terms]):
            raise InvalidTerms(terms)
        self._degree = degree
        self._terms = {triple: terms[triple] for triple in sorted(list(terms), reverse=True)}

    @property
    def degree(self):
        """The degree."""
        return self._degree

    @property
    def is_nought(self):
        """Whether there are no terms."""
        return len(self._terms) == 0

    def terms(self):
        """The dict of the terms, its keys falling."""
        return {triple: self._terms[triple] for triple in self._terms}

    def __eq__(self, other):
        return isinstance(other, Form) and self._degree == other._degree and self._terms == other._terms

    def __repr__(self):
        return f"Form({self._degree}, {self._terms})"

    def __add__(self, other):
        check_same_degree(self, other)
        return Form(self._degree, added(self._terms, other._terms))

    def __sub__(self, other):
        check_same_degree(self, other)
        return Form(self._degree, added(self._terms, scaled(other._terms, -1)))

    def __neg__(self):
        return Form(self._degree, scaled(self._terms, -1))

    def __mul__(self, other):
        check_form(other)
        if self._degree + other._degree > MOST_DEGREE:
            raise TooMany("degree", MOST_DEGREE)
        return Form(self._degree + other._degree, multiplied(self._terms, other._terms))

    def times(self, number):
        """The form of this degree with each number times the number."""
        check_number(number)
        return Form(self._degree, scaled(self._terms, number))

    def worth(self, point):
        """What the form comes to with the numbers of the told point."""
        return worth_of(self._terms, self._degree, told_point(point))


def check_form(form):
    """InvalidForm unless a Form."""
    if not isinstance(form, Form):
        raise InvalidForm(form)


def check_same_degree(form, other):
    """InvalidForm unless the other one is a Form, UnlikeDegrees unless both have one degree."""
    check_form(other)
    if form.degree != other.degree:
        raise UnlikeDegrees()


def letter_forms():
    """The list of the Forms x, y, z."""
    return [Form(1, {triple: 1}) for triple in LETTER_TRIPLES]
