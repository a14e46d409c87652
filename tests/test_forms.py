"""Forms, their sums and products, and their worth at points."""

import unittest

from pointrows.errors import (InvalidDegree, InvalidForm, InvalidNumber, InvalidPoint, InvalidTerms, TooMany,
                              UnlikeDegrees)
from pointrows.forms import Form, letter_forms
from pointrows.points import Spots, told_point
from tests.helpers import (NO_COUNTS, NO_FORMS, NO_INTEGERS, NO_POINTS, Odd, draw_form, draw_points, draws,
                           look_at_parameters, no_degrees, refused, told_twice, triples_by_hand, worth_by_hand)

X, Y, Z = letter_forms()
CONIC = Form(2, {(1, 0, 1): 1, (0, 2, 0): -1})
NO_TERMS = [value for value in NO_INTEGERS if not isinstance(value, dict)] + [
    0, 7, {1: 1}, [((1, 0, 0), 1)], (((1, 0, 0), 1),), "x", Form(1, {}), {"x": 1}, {(1, 0): 1}, {(1, 0, 0, 0): 1},
    {(True, 0, 0): 1}, {(1, 0, False): 1}, {(1, 0, 0): True}, {(1, 0, 0): False}, {(1, 0, 0): 0},
    {(1, 0, 0): 1, (0, 1, 0): 0}, {(1, 0, 0): None}, {(1, 0, 0): "1"}, {(1, 0, 0): [1]}, {(0, 0, 0): 1}, {(2, 0, 0): 1},
    {(1, 0, 0): 1, (1, 1, 0): 1}, {(2, -1, 0): 1}, {None: 1}, {(0, 0, "1"): 1}, {"100": 1}, {(1, 0, 0): Odd()},
    {frozenset(): 1}, {((1,), 0, 0): 1},
]


def sum_by_hand(one, other, sign):
    """The terms of a sum or a difference, each triple looked at."""
    first, second = one.terms(), other.terms()
    numbers = {triple: first.get(triple, 0) + sign * second.get(triple, 0) for triple in triples_by_hand(one.degree)}
    return {triple: number for triple, number in numbers.items() if number != 0}


def product_by_hand(one, other):
    """The terms of a product, each triple looked at with all the ways to it."""
    first, second = one.terms(), other.terms()
    found = {}
    for triple in triples_by_hand(one.degree + other.degree):
        number = 0
        for part in first:
            number += first[part] * second.get(tuple(a - b for a, b in zip(triple, part)), 0)
        if number != 0:
            found[triple] = number
    return found


class Made(unittest.TestCase):

    def test_degrees(self):
        for degree in (0, 1, 5, 12):
            terms = {triple: 1 for triple in triples_by_hand(degree)}
            form = Form(degree, terms)
            self.assertEqual((form.degree, form.terms(), form.is_nought), (degree, terms, False))
            self.assertEqual(Form(terms=terms, degree=degree), form)
            nought = Form(degree, {})
            self.assertEqual((nought.degree, nought.terms()), (degree, {}))
            self.assertIs(nought.is_nought, True)
        self.assertIs(X.is_nought, False)

    def test_parameters(self):
        look_at_parameters(self, Form, [
            ("degree", 1, InvalidDegree, no_degrees(12)), ("terms", {(1, 0, 0): 1}, InvalidTerms, NO_TERMS)])
        for degree in NO_COUNTS:
            refused(self, InvalidDegree, {"value": degree}, Form, degree, {})
        refused(self, InvalidDegree, {"value": 13}, Form, 13, {(13, 0, 0): 1})
        refused(self, InvalidTerms, {"value": {(0, 0, 0): 1}}, Form, 12, {(0, 0, 0): 1})

    def test_copies(self):
        terms = {(1, 0, 0): 2, (0, 0, 1): 3}
        form = Form(1, terms)
        terms[(0, 1, 0)] = 5
        del terms[(1, 0, 0)]
        self.assertEqual(form.terms(), {(1, 0, 0): 2, (0, 0, 1): 3})
        told = form.terms()
        told.clear()
        self.assertEqual(form.terms(), {(1, 0, 0): 2, (0, 0, 1): 3})
        self.assertIsNot(form.terms(), form.terms())

    def test_falling(self):
        falling = triples_by_hand(4)
        for seed in range(5):
            mixed = list(falling)
            draws(seed).shuffle(mixed)
            form = Form(4, {triple: sum(triple) * 7 + triple[1] for triple in mixed})
            self.assertEqual(list(form.terms()), falling)
            self.assertEqual(form, Form(4, {triple: sum(triple) * 7 + triple[1] for triple in falling}))
        self.assertEqual(list((X * Z + Y * Y + X * X + Z * Z).terms()), [(2, 0, 0), (1, 0, 1), (0, 2, 0), (0, 0, 2)])

    def test_equal(self):
        self.assertIs(CONIC == Form(2, {(0, 2, 0): -1, (1, 0, 1): 1}), True)
        self.assertIs(CONIC != Form(2, {(0, 2, 0): -1, (1, 0, 1): 1}), False)
        for other in (CONIC.times(2), X, Form(2, {}), Form(2, {(1, 0, 1): 1}), Form(2, {(1, 1, 0): 1, (0, 2, 0): -1})):
            self.assertIs(CONIC == other, False)
            self.assertIs(CONIC != other, True)
        self.assertIs(Form(3, {}) == Form(2, {}), False)
        self.assertIs(Form(2, {}) == Form(2, {}), True)
        for other in [None, 0, 2, "Form", [], (2, CONIC.terms()), CONIC.terms(), Spots([(1, 0, 0)]), Form, object()]:
            self.assertIs(CONIC == other, False)
            self.assertIs(CONIC != other, True)

    def test_repr(self):
        self.assertEqual(repr(Form(2, {(0, 1, 1): -3, (2, 0, 0): 1})), "Form(2, {(2, 0, 0): 1, (0, 1, 1): -3})")
        self.assertEqual(repr(Form(7, {})), "Form(7, {})")
        self.assertEqual(repr(Form(0, {(0, 0, 0): -12})), "Form(0, {(0, 0, 0): -12})")

    def test_letters(self):
        self.assertEqual(letter_forms(), [Form(1, {(1, 0, 0): 1}), Form(1, {(0, 1, 0): 1}), Form(1, {(0, 0, 1): 1})])
        told_twice(self, letter_forms)


class Sums(unittest.TestCase):

    def test_sums_and_differences(self):
        source = draws(11)
        for degree in (0, 1, 2, 5, 12):
            for size in (1, 3, 10 ** 6, 10 ** 40):
                one, other = draw_form(source, degree, size, 0.6), draw_form(source, degree, 2, 0.6)
                self.assertEqual((one + other).terms(), sum_by_hand(one, other, 1))
                self.assertEqual((one - other).terms(), sum_by_hand(one, other, -1))
                self.assertEqual((-one).terms(), {triple: -number for triple, number in one.terms().items()})
                self.assertEqual([form.degree for form in (one + other, one - other, -one)], [degree] * 3)
                self.assertEqual(list((one + other).terms()), sorted((one + other).terms(), reverse=True))
                self.assertEqual(one - one, Form(degree, {}))
                self.assertEqual(one + Form(degree, {}), one)
                self.assertEqual(-Form(degree, {}), Form(degree, {}))

    def test_products(self):
        source = draws(12)
        for first, second in ((0, 0), (0, 12), (12, 0), (1, 1), (2, 3), (6, 6), (11, 1)):
            for size in (1, 999999, 10 ** 30):
                one, other = draw_form(source, first, size, 0.5), draw_form(source, second, 3, 0.5)
                self.assertEqual((one * other).terms(), product_by_hand(one, other))
                self.assertEqual((one * other).degree, first + second)
                self.assertEqual(one * other, other * one)
        self.assertEqual((X + Y) * (X - Y), X * X - Y * Y)

    def test_product_with_nought(self):
        self.assertEqual(CONIC * Form(3, {}), Form(5, {}))
        self.assertEqual(Form(0, {}) * Form(12, {}), Form(12, {}))

    def test_times(self):
        self.assertEqual(CONIC.times(0), Form(2, {}))
        self.assertEqual(CONIC.times(1), CONIC)
        self.assertEqual(CONIC.times(number=-7).terms(), {(1, 0, 1): -7, (0, 2, 0): 7})
        self.assertEqual(CONIC.times(10 ** 50).terms(), {(1, 0, 1): 10 ** 50, (0, 2, 0): -(10 ** 50)})
        self.assertEqual(Form(4, {}).times(5), Form(4, {}))
        look_at_parameters(self, CONIC.times, [("number", 3, InvalidNumber, NO_INTEGERS)])

    def test_wrong_values_on_the_right(self):
        operators = (lambda other: CONIC + other, lambda other: CONIC - other, lambda other: CONIC * other,
                     lambda other: Form(12, {}) * other, lambda other: Form(12, {}) - other)
        for operator in operators:
            for value in NO_FORMS:
                refused(self, InvalidForm, {"value": value}, operator, value)
        refused(self, InvalidForm, {"value": 3}, lambda: CONIC * 3)

    def test_unlike_degrees(self):
        for other in (X, Form(0, {(0, 0, 0): 1}), Form(3, {}), Form(12, {(12, 0, 0): 5})):
            refused(self, UnlikeDegrees, {}, lambda one: CONIC + one, other)
            refused(self, UnlikeDegrees, {}, lambda one: CONIC - one, other)
            refused(self, UnlikeDegrees, {}, lambda one: one - CONIC, other)
        refused(self, UnlikeDegrees, {}, lambda: Form(2, {}) + Form(3, {}))

    def test_too_great_a_degree(self):
        seven, six = Form(7, {(7, 0, 0): 1}), Form(6, {(0, 6, 0): 1})
        self.assertEqual((six * six).degree, 12)
        nought = Form(12, {})
        for one, other in ((seven, six), (six, seven), (nought, X), (seven, Form(6, {})), (nought, nought)):
            refused(self, TooMany, {"what": "degree", "limit": 12}, lambda a, b: a * b, one, other)

    def test_nothing_changes(self):
        one, other = draw_form(draws(1), 3, 9), draw_form(draws(2), 3, 9)
        told_twice(self, lambda a, b: a + b, one, other)
        told_twice(self, lambda a, b: a - b, one, other)
        told_twice(self, lambda a, b: a * b, one, other)
        told_twice(self, lambda a: -a, one)
        told_twice(self, lambda a: a.times(3), one)
        told_twice(self, lambda a: a.terms(), one)
        told_twice(self, lambda a, point: a.worth(point), one, [2, 4, 6])


class Worths(unittest.TestCase):

    def test_by_hand(self):
        source = draws(21)
        for degree in (0, 1, 2, 5, 12):
            for size in (2, 999999, 10 ** 30):
                form = draw_form(source, degree, size, 0.7)
                for point in draw_points(source, 6, 9) + draw_points(source, 2, size):
                    told = told_point(point)
                    self.assertEqual(form.worth(point), worth_by_hand(form, told))
                    for many in (2, -1, -7, 10 ** 6):
                        self.assertEqual(form.worth([many * number for number in point]), form.worth(told))

    def test_sums_and_products(self):
        source = draws(22)
        for point in draw_points(source, 10, 5):
            one, other = draw_form(source, 3, 9), draw_form(source, 3, 9)
            self.assertEqual((one + other).worth(point), one.worth(point) + other.worth(point))
            self.assertEqual((one - other).worth(point), one.worth(point) - other.worth(point))
            self.assertEqual((one * other).worth(point), one.worth(point) * other.worth(point))
            self.assertEqual(one.times(-4).worth(point), -4 * one.worth(point))
            self.assertEqual((-one).worth(point), -(one.worth(point)))

    def test_told_point(self):
        self.assertEqual([X.worth((-3, 6, 9)), Y.worth([-3, 6, 9]), Z.worth(point=(0, 0, -5))], [1, -2, 1])
        self.assertEqual([CONIC.worth((2, 4, 8)), CONIC.worth([1, 1, 0]), Form(3, {}).worth((1, 2, 3))], [0, -1, 0])
        self.assertEqual(Form(0, {(0, 0, 0): 5}).worth((7, 7, 7)), 5)

    def test_parameters(self):
        look_at_parameters(self, CONIC.worth, [("point", (1, 2, 3), InvalidPoint, NO_POINTS)])
        look_at_parameters(self, Form(0, {}).worth, [("point", [1, 2, 3], InvalidPoint, NO_POINTS)])


if __name__ == "__main__":
    unittest.main()
