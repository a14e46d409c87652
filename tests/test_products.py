"""What is made of forms: slopes, forms put in tables, plain ones, parts and common parts."""

import unittest
from math import gcd

from pointrows.errors import InvalidDegree, InvalidForm, InvalidLetter, InvalidTable, NoughtForm
from pointrows.forms import Form, letter_forms
from pointrows.points import told_point
from pointrows.products import common_form, no_common, primitive, put_in, quotient, slope, triples
from tests.helpers import (NO_FORMS, NO_INTEGERS, NO_TABLES, draw_form, draw_points, draw_table, draws, led_by_hand,
                           look_at_parameters, no_degrees, rank_by_hand, refused, told_twice, triples_by_hand,
                           worth_by_hand)

X, Y, Z = letter_forms()
ONE = Form(0, {(0, 0, 0): 1})
CONIC = X * Z - Y * Y
NO_LETTERS = [
    None, True, False, "", "1", "X", "w", "xy", "xyz", "yz", " x", "x ", b"x", [], ["x"], ("x",), {"x": 1}, {"x"}, 0, 1,
    object(), X, str]


def is_plain(form):
    """Whether a form, not nought, is plain."""
    numbers = list(form.terms().values())
    return gcd(*numbers) == 1 and numbers[0] > 0


class Triples(unittest.TestCase):

    def test_each_degree(self):
        for degree in range(13):
            self.assertEqual(triples(degree), triples_by_hand(degree))
            self.assertEqual(len(triples(degree=degree)), (degree + 1) * (degree + 2) // 2)
        self.assertEqual(triples(0), [(0, 0, 0)])
        self.assertEqual(triples(2), [(2, 0, 0), (1, 1, 0), (1, 0, 1), (0, 2, 0), (0, 1, 1), (0, 0, 2)])

    def test_parameters(self):
        look_at_parameters(self, triples, [("degree", 3, InvalidDegree, no_degrees(12))])
        told_twice(self, triples, 4)


class Slopes(unittest.TestCase):

    def test_some(self):
        form = Form(3, {(3, 0, 0): 2, (1, 1, 1): -5, (0, 2, 1): 4, (0, 0, 3): 1})
        self.assertEqual(slope(form, "x"), Form(2, {(2, 0, 0): 6, (0, 1, 1): -5}))
        self.assertEqual(slope(form, "y"), Form(2, {(1, 0, 1): -5, (0, 1, 1): 8}))
        self.assertEqual(slope(letter="z", form=form), Form(2, {(1, 1, 0): -5, (0, 2, 0): 4, (0, 0, 2): 3}))
        self.assertEqual(slope(X, "y"), Form(0, {}))
        self.assertEqual(slope(X, "x"), ONE)
        self.assertEqual(slope(Form(5, {}), "z"), Form(4, {}))

    def test_degree_nought(self):
        for letter in ("x", "y", "z"):
            self.assertEqual(slope(ONE.times(7), letter), Form(0, {}))
            self.assertEqual(slope(Form(0, {}), letter), Form(0, {}))

    def test_euler(self):
        source = draws(31)
        for degree in (1, 2, 5, 12):
            for size in (3, 999999, 10 ** 40):
                form = draw_form(source, degree, size, 0.6)
                total = X * slope(form, "x") + Y * slope(form, "y") + Z * slope(form, "z")
                self.assertEqual(total, form.times(degree))

    def test_parameters(self):
        look_at_parameters(self, slope, [
            ("form", CONIC, InvalidForm, NO_FORMS), ("letter", "x", InvalidLetter, NO_LETTERS)])
        refused(self, InvalidLetter, {"value": "t"}, slope, ONE, "t")
        told_twice(self, slope, CONIC, "x")


class PutIn(unittest.TestCase):

    def test_some(self):
        self.assertEqual(put_in(CONIC, [[1, 0, 0], [0, 1, 0], [1, 0, 1]]), X * X + X * Z - Y * Y)
        self.assertEqual(put_in(X, [[2, 0, -3], [0, 1, 0], [0, 0, 1]]), X.times(2) - Z.times(3))
        self.assertEqual(put_in(X * Y, ((0, 1, 0), (0, 0, 1), (1, 0, 0))), Y * Z)
        self.assertEqual(put_in(ONE.times(5), [[2, 0, 0], [0, 2, 0], [0, 0, 2]]), ONE.times(5))
        self.assertEqual(put_in(Form(4, {}), [[2, 0, 0], [0, 2, 0], [0, 0, 2]]), Form(4, {}))
        self.assertEqual(put_in(CONIC.times(2), [[0, 0, 2], [0, 2, 0], [2, 0, 0]]), CONIC.times(8))

    def test_worths(self):
        source = draws(41)
        for degree in (0, 1, 2, 4, 7):
            for size in (2, 999999):
                form, table = draw_form(source, degree, size, 0.6), draw_table(source, size)
                put = put_in(form, table)
                self.assertEqual(put.degree, degree)
                for numbers in draw_points(source, 5, 9):
                    self.assertEqual(worth_by_hand(put, numbers), worth_by_hand(form, led_by_hand(table, numbers)))
                self.assertEqual(put_in(form, tuple(tuple(row) for row in table)), put)
                self.assertEqual(put_in(form, (list(table[0]), tuple(table[1]), table[2])), put)

    def test_one_behind_another(self):
        source = draws(42)
        for _ in range(6):
            form, one, other = draw_form(source, 3, 5), draw_table(source, 4), draw_table(source, 4)
            columns = [list(column) for column in zip(*other)]
            product = [[sum(a * b for a, b in zip(row, column)) for column in columns] for row in one]
            self.assertEqual(put_in(put_in(form, one), other), put_in(form, product))

    def test_greatest(self):
        form = draw_form(draws(43), 12, 999999)
        table = [[999999, -1, 2], [3, 4, -888888], [0, 5, 1]]
        put = put_in(form, table)
        for numbers in ((1, 0, 0), (1, -2, 3), (7, 7, 1)):
            self.assertEqual(worth_by_hand(put, numbers), worth_by_hand(form, led_by_hand(table, numbers)))

    def test_parameters(self):
        look_at_parameters(self, put_in, [
            ("form", CONIC, InvalidForm, NO_FORMS),
            ("table", [[1, 0, 0], [0, 1, 0], [0, 0, 1]], InvalidTable, NO_TABLES)])
        refused(self, InvalidTable, {"value": [[1, 1, 1]] * 3}, put_in, Form(0, {}), [[1, 1, 1]] * 3)
        told_twice(self, put_in, CONIC, [[1, 2, 0], [0, 1, 0], [0, 0, 1]])


class Primitive(unittest.TestCase):

    def test_some(self):
        self.assertEqual(primitive((Z - X).times(6)), X - Z)
        self.assertEqual(primitive(CONIC.times(-10 ** 30)), CONIC)
        self.assertEqual(primitive(Form(2, {(0, 1, 1): -4, (0, 0, 2): 6})), Form(2, {(0, 1, 1): 2, (0, 0, 2): -3}))
        self.assertEqual(primitive(form=ONE.times(-9)), ONE)
        for degree in (0, 3, 12):
            self.assertEqual(primitive(Form(degree, {})), Form(degree, {}))

    def test_drawn(self):
        source = draws(51)
        for degree in (0, 1, 3, 8):
            form = draw_form(source, degree, 9, 0.7)
            told = primitive(form)
            self.assertTrue(is_plain(told))
            for many in (1, -1, 12, -(10 ** 20)):
                self.assertEqual(primitive(form.times(many)), told)
            first = list(form.terms())[0]
            self.assertEqual(told.times(form.terms()[first]), form.times(told.terms()[first]))

    def test_parameters(self):
        look_at_parameters(self, primitive, [("form", CONIC, InvalidForm, NO_FORMS)])
        told_twice(self, primitive, CONIC.times(4))


class Quotients(unittest.TestCase):

    def test_some(self):
        self.assertEqual(quotient((X * X - Y * Y).times(2), (X + Y).times(3)), X - Y)
        self.assertEqual(quotient(X * Y * Z, Y.times(-5)), X * Z)
        self.assertEqual(quotient(other=CONIC.times(-3), form=CONIC.times(2)), ONE)
        self.assertEqual(quotient(CONIC, ONE.times(7)), CONIC)
        self.assertEqual(quotient(ONE.times(4), ONE.times(-6)), ONE)
        self.assertEqual(quotient(X.times(2) + Y, X.times(4) + Y.times(2)), ONE)

    def test_no_part(self):
        for form, other in ((CONIC, X), (X, CONIC), (X, Y), (ONE, X), (X * X + Y * Y, X + Y), (X * X, Y * Y),
                            (X.times(2) + Y, X + Y.times(2)), (X * X + Z * Z, X), (X * Y + Z * Z, Z),
                            (X * X - (Y * Y).times(4), X.times(2) - Y), (X * X * X + Y * Y * Y + Z * Z * Z, X + Y)):
            self.assertIsNone(quotient(form, other))

    def test_products(self):
        source = draws(61)
        for first, second in ((0, 0), (0, 5), (5, 0), (1, 1), (2, 3), (6, 6), (1, 11), (11, 1)):
            for size in (2, 999999, 10 ** 40):
                one, other = draw_form(source, first, size, 0.6), draw_form(source, second, 7, 0.6)
                self.assertEqual(quotient(one * other, other), primitive(one))
                self.assertEqual(quotient((one * other).times(-6), one.times(10)), primitive(other))

    def test_a_term_beside_a_product(self):
        source = draws(62)
        line = X - Y + Z
        for _ in range(20):
            form = draw_form(source, 4, 5) * line
            self.assertEqual(quotient(form, line) * line, primitive(form))
            # The line passes the point (0, 1, 1), where this term is not 0.
            self.assertIsNone(quotient(form + Y * Y * Y * Z * Z, line))

    def test_nought(self):
        for form, other in ((Form(2, {}), X), (X, Form(1, {})), (Form(1, {}), Form(1, {})), (Form(0, {}), X * X)):
            refused(self, NoughtForm, {}, quotient, form, other)

    def test_parameters(self):
        look_at_parameters(self, quotient, [
            ("form", CONIC, InvalidForm, NO_FORMS), ("other", X, InvalidForm, NO_FORMS)])
        refused(self, InvalidForm, {"value": 1}, quotient, Form(2, {}), 1)
        told_twice(self, quotient, CONIC * X, X)


def pairs_by_hand(form, other):
    """How many independent pairs A, B of degrees b - 1 and a - 1 make A times the form B times the other one."""
    a, b = form.degree, other.degree
    products = [(form * Form(b - 1, {triple: 1})).terms() for triple in triples_by_hand(b - 1)]
    products += [(other * Form(a - 1, {triple: 1})).terms() for triple in triples_by_hand(a - 1)]
    wanted = triples_by_hand(a + b - 1)
    return len(products) - rank_by_hand([[terms.get(triple, 0) for triple in wanted] for terms in products])


class CommonParts(unittest.TestCase):

    def told(self, form, other, wanted):
        self.assertEqual(common_form(form, other), wanted)
        self.assertEqual(common_form(other, form), wanted)
        self.assertEqual(common_form(form=form.times(-3), other=other.times(10 ** 12)), wanted)
        self.assertIs(no_common(form, other), wanted.degree == 0)
        self.assertIs(no_common(other=form, form=other), wanted.degree == 0)

    def test_some(self):
        self.told(X * X - Y * Y, (X + Y) * Z, X + Y)
        self.told(CONIC, X, ONE)
        self.told(X, Y, ONE)
        self.told(X, X.times(-2), X)
        self.told(X * Y * Z, Z * Z * Y, Y * Z)
        self.told(Z * Z * Z, Z * Z * X, Z * Z)
        self.told(Z, Z, Z)
        self.told(Y * Y, Y * X, Y)
        self.told(CONIC * CONIC * X, CONIC * X * X, CONIC * X)
        self.told((X + Y) * (X + Y) * (X + Y), (X + Y) * (X + Y) * (X - Y), (X + Y) * (X + Y))
        self.told(X * X + Y * Y, X * X + Y * Y + Z * Z, ONE)
        self.told(X * X + Y * Y + Z * Z, (X * X + Y * Y + Z * Z) * (X - Z.times(5)), X * X + Y * Y + Z * Z)

    def test_degree_nought(self):
        for form in (ONE.times(4), X, CONIC, Form(0, {}), Form(12, {(12, 0, 0): 5})):
            for number in (1, -1, 6):
                self.told(form, ONE.times(number), ONE)

    def test_nought(self):
        for degree in (0, 1, 5, 12):
            self.told(Form(degree, {}), (X - Y).times(-4), X - Y)
            self.told(Form(degree, {}), CONIC.times(6), CONIC)
            self.told(Form(degree, {}), ONE.times(6), ONE)
        for one, other in ((0, 0), (1, 1), (3, 5), (12, 0)):
            refused(self, NoughtForm, {}, common_form, Form(one, {}), Form(other, {}))
            refused(self, NoughtForm, {}, no_common, Form(one, {}), Form(other, {}))

    def test_drawn(self):
        source = draws(71)
        for _ in range(120):
            size, share = source.choice([1, 2, 9, 999999]), source.choice([0.3, 0.6, 1])
            part = draw_form(source, source.randint(0, 4), size, share)
            one = draw_form(source, source.randint(0, 4), size, share)
            other = draw_form(source, source.randint(0, 4), size, share)
            first, second = part * one, part * other
            told = common_form(first, second)
            self.assertTrue(is_plain(told))
            self.assertIsNotNone(quotient(told, part))
            self.assertEqual(told, primitive(part * common_form(one, other)))
            self.assertTrue(no_common(quotient(first, told), quotient(second, told)))
            self.assertIs(no_common(first, second), told.degree == 0)
            self.assertEqual(common_form(second, first), told)

    def test_how_many_pairs(self):
        source = draws(72)
        for degrees in ((0, 1, 1), (0, 2, 3), (1, 1, 1), (1, 1, 2), (2, 1, 1), (2, 0, 1), (3, 1, 0)):
            part, one, other = [draw_form(source, degree, 4) for degree in degrees]
            told = common_form(part * one, part * other).degree
            self.assertEqual(pairs_by_hand(part * one, part * other), told * (told + 1) // 2)
            self.assertEqual(no_common(part * one, part * other), pairs_by_hand(part * one, part * other) == 0)

    def test_where_the_first_base_shows_too_much(self):
        # The lines cross these forms where y is 12 times z, and twice the greatest number and 2 more is 12.
        form = X * X * X - (X * X * Z).times(5) - (X * Y * Z).times(5) - (Y * Y * Z).times(2)
        self.told(form, X - Y, ONE)
        self.told(form * Y, (X - Y) * Y, Y)
        self.told(X - Z.times(12), X + Y - Z.times(24), ONE)

    def test_long_numbers(self):
        source = draws(73)
        for size in (10 ** 6, 10 ** 60):
            part, one, other = draw_form(source, 5, size), draw_form(source, 7, 3), draw_form(source, 7, size, 0.3)
            self.told(part * one, part * other, primitive(part))
        self.told(draw_form(source, 12, 999999), draw_form(source, 12, 999999), ONE)

    def test_parameters(self):
        for function in (common_form, no_common):
            look_at_parameters(self, function, [
                ("form", CONIC, InvalidForm, NO_FORMS), ("other", X, InvalidForm, NO_FORMS)])
            refused(self, InvalidForm, {"value": 0}, function, Form(1, {}), 0)
            told_twice(self, function, CONIC * X, CONIC * Y)


if __name__ == "__main__":
    unittest.main()
