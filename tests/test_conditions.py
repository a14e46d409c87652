"""Conditions of points on forms of a degree, and the forms that pass all points."""

import unittest

from pointrows.conditions import conditions, forms_through, is_forms_through
from pointrows.elimination import PRIME, rank
from pointrows.errors import InvalidDegree, InvalidSpots
from pointrows.forms import Form, letter_forms
from pointrows.kernels import kernel
from pointrows.points import Spots
from pointrows.tables import form_moved, moved
from tests.helpers import (NO_INTEGERS, NO_SPOTS, draw_points, draw_table, draws, look_at_parameters, no_degrees,
                           rank_by_hand, told_twice, triples_by_hand, worth_by_hand)
from tests.samples import SAMPLES

X, Y, Z = letter_forms()
GRID = SAMPLES["grid of 3 and 3"]
BENT = SAMPLES["bent"]


def conditions_by_hand(spots, degree):
    """The worths of the products of letters at the points, as lists of numbers."""
    return [[x ** i * y ** j * z ** k for i, j, k in triples_by_hand(degree)] for x, y, z in spots.points()]


def numbers_of(form):
    """The numbers of all triples of the form."""
    terms = form.terms()
    return [terms.get(triple, 0) for triple in triples_by_hand(form.degree)]


class Ranks(unittest.TestCase):

    def test_drawn_rows(self):
        source = draws(151)
        for many, width, size in ((1, 1, 1), (3, 3, 1), (4, 7, 1), (7, 4, 2), (8, 8, 1), (6, 6, 10 ** 40)):
            for _ in range(12):
                rows = [[source.randint(-size, size) for _ in range(width)] for _ in range(many)]
                rows.append([sum(column) for column in zip(*rows[:2])])
                self.assertEqual(rank(rows), rank_by_hand(rows))
                told = kernel(rows, width)
                self.assertEqual(len(told), width - rank(rows))
                self.assertEqual(rank_by_hand(told), len(told))
                for row in rows:
                    for numbers in told:
                        self.assertEqual(sum(a * b for a, b in zip(row, numbers)), 0)

    def test_rows_that_hang_together_modulo_the_prime_only(self):
        for rows in ([[PRIME]], [[1, 2], [1, 2 + PRIME]], [[PRIME, 1], [3 * PRIME, 4]], [[0, PRIME], [PRIME, 0]]):
            self.assertEqual(rank(rows), len(rows))

    def test_corners(self):
        self.assertEqual([rank([]), rank([[0, 0]]), rank([[0], [0]]), rank([[0, 0, 5]])], [0, 0, 0, 1])
        self.assertEqual([kernel([], 2), kernel([[0, 0]], 2), kernel([[1, 0], [0, 1]], 2)],
                         [[[1, 0], [0, 1]], [[1, 0], [0, 1]], []])


class Conditions(unittest.TestCase):

    def test_samples(self):
        for name, spots in SAMPLES.items():
            for degree in range(10):
                wanted = rank_by_hand(conditions_by_hand(spots, degree))
                self.assertEqual(conditions(spots, degree), wanted, (name, degree))

    def test_some(self):
        self.assertEqual([conditions(GRID, degree) for degree in (2, 3, 4)], [6, 8, 9])
        self.assertEqual([conditions(SAMPLES["line of ten"], degree) for degree in range(10)], list(range(1, 11)))
        self.assertEqual([conditions(SAMPLES["conic of 24"], degree) for degree in range(10)],
                         [2 * degree + 1 for degree in range(10)])
        self.assertEqual(conditions(degree=9, spots=BENT), 4)

    def test_facts(self):
        for spots in SAMPLES.values():
            told = [conditions(spots, degree) for degree in range(10)]
            self.assertEqual(told[0], 1)
            for degree in range(9):
                self.assertTrue(told[degree] < told[degree + 1] or told[degree] == told[degree + 1] == spots.size)
                self.assertLessEqual(told[degree], len(triples_by_hand(degree)))
            if spots.size > 1:
                fewer = spots.without(spots.size // 2)
                for degree in (0, 1, 2, 5):
                    self.assertLessEqual(conditions(fewer, degree), told[degree])

    def test_moved(self):
        for at, name in enumerate(SAMPLES):
            table = draw_table(draws(at), 3 + at % 2 * 900000)
            led = moved(SAMPLES[name], table)
            for degree in (1, 2, 3, 6, 9):
                self.assertEqual(conditions(led, degree), conditions(SAMPLES[name], degree), (name, degree))

    def test_parameters(self):
        for function in (conditions, forms_through):
            look_at_parameters(self, function, [
                ("spots", BENT, InvalidSpots, NO_SPOTS), ("degree", 2, InvalidDegree, no_degrees(9))])
            told_twice(self, function, BENT, 2)
        look_at_parameters(self, is_forms_through, [
            ("spots", BENT, InvalidSpots, NO_SPOTS), ("degree", 2, InvalidDegree, no_degrees(9)),
            ("value", [], None, [])])
        look_at_parameters(self, is_forms_through, [
            ("spots", BENT, InvalidSpots, NO_SPOTS), ("degree", 2, InvalidDegree, no_degrees(9)),
            ("value", None, None, [])])
        told_twice(self, is_forms_through, BENT, 2, [X * Y, Y * Y - Y * Z])
        self.assertEqual([len(forms_through(BENT, 9)), conditions(BENT, 9)], [51, 4])


class FormsThrough(unittest.TestCase):

    def told(self, spots, degree):
        """What forms_through tells, looked at by hand."""
        forms = forms_through(spots, degree)
        self.assertIs(type(forms), list)
        wanted = len(triples_by_hand(degree)) - rank_by_hand(conditions_by_hand(spots, degree))
        self.assertEqual(len(forms), wanted)
        for form in forms:
            self.assertIsInstance(form, Form)
            self.assertEqual(form.degree, degree)
            self.assertEqual([worth_by_hand(form, point) for point in spots.points()], [0] * spots.size)
            self.assertLess(max(abs(number) for number in form.terms().values()), 10 ** 600)
        self.assertEqual(rank_by_hand([numbers_of(form) for form in forms]), wanted)
        self.assertIs(is_forms_through(spots, degree, forms), True)
        self.assertIs(is_forms_through(value=tuple(forms), degree=degree, spots=spots), True)
        return forms

    def test_samples(self):
        for spots in SAMPLES.values():
            for degree in (0, 1, 2, 3, 5, 8):
                self.told(spots, degree)

    def test_some(self):
        self.assertEqual(self.told(BENT, 1), [])
        self.assertEqual(self.told(BENT, 0), [])
        self.assertEqual(len(self.told(GRID, 3)), 2)
        self.assertEqual([form.times(1) for form in self.told(SAMPLES["line of five"], 1)],
                         [Form(1, {(1, 0, 0): 2, (0, 1, 0): -1, (0, 0, 1): 1})])
        self.assertEqual(len(self.told(SAMPLES["line of ten"], 9)), 45)

    def test_long_numbers(self):
        source = draws(161)
        for many, degree in ((5, 2), (9, 3), (14, 4), (20, 5), (24, 6), (24, 7)):
            spots = Spots(draw_points(source, many, 999999))
            forms = forms_through(spots, degree)
            self.assertEqual(len(forms), len(triples_by_hand(degree)) - many)
            for form in forms:
                self.assertEqual([worth_by_hand(form, point) for point in spots.points()], [0] * many)
                self.assertLess(max(abs(number) for number in form.terms().values()), 10 ** 600)
            self.assertIs(is_forms_through(spots, degree, forms), True)

    def test_longer_numbers(self):
        # There are forms with far fewer digits, for points that tables lead away from short ones.
        source = draws(163)
        spots = Spots(draw_points(source, 24, 999999))
        for degrees in ((6, 7, 8, 9), (6, 7), (6,)):
            spots = moved(spots, draw_table(source, 999999))
            for degree in degrees:
                forms = forms_through(spots, degree)
                self.assertEqual(len(forms), len(triples_by_hand(degree)) - 24)
                self.assertIs(is_forms_through(spots, degree, forms), True)
                for form in forms:
                    self.assertLess(max(abs(number) for number in form.terms().values()), 10 ** 600)
        self.assertEqual(forms_through(spots, 6), forms)

    def test_moved(self):
        table = draw_table(draws(162), 5)
        led = moved(GRID, table)
        self.assertTrue(is_forms_through(led, 3, [form_moved(form, table) for form in forms_through(GRID, 3)]))
        self.assertFalse(is_forms_through(led, 3, forms_through(GRID, 3)))


class IsFormsThrough(unittest.TestCase):

    def test_others(self):
        self.assertIs(is_forms_through(BENT, 2, [X * Y, Y * Y - Y * Z]), True)
        self.assertIs(is_forms_through(BENT, 2, ((X * Y).times(-5), X * Y + Y * Y - Y * Z)), True)
        cubics = [X * (X - Z) * (X - Z.times(2)), Y * (Y - Z) * (Y - Z.times(2))]
        self.assertIs(is_forms_through(GRID, 3, cubics), True)
        self.assertIs(is_forms_through(GRID, 3, [cubics[0] + cubics[1], cubics[0] - cubics[1]]), True)
        self.assertIs(is_forms_through(GRID, 3, [cubics[0] + cubics[1], cubics[1]][::-1]), True)
        self.assertIs(is_forms_through(GRID, 2, []), True)
        self.assertIs(is_forms_through(GRID, 2, ()), True)

    def test_not_all_that_it_takes(self):
        good = [X * Y, Y * Y - Y * Z]
        for value in ([], good[:1], good[1:], good + [X * Y], good + good, good + [Y * Y], good + [Form(2, {})],
                      [good[0], good[0]], [good[0], good[0].times(-3)], [good[0], Form(2, {})], [Form(2, {})] * 2,
                      [good[0], X * X], [X * X, good[1]], [good[0], X * Z], [good[0] * X, good[1]],
                      [good[0] * X, good[1] * X], [X, Y], [good[0], Y * Y], [good[0] + Z * Z, good[1]],
                      [Form(3, {}), good[0]]):
            self.assertIs(is_forms_through(BENT, 2, value), False)
        three = forms_through(SAMPLES["two"], 2)
        self.assertIs(is_forms_through(SAMPLES["two"], 2, three), True)
        self.assertIs(is_forms_through(SAMPLES["two"], 2, three[:3] + [three[0] + three[1] - three[2]]), False)

    def test_no_list_of_forms(self):
        good = [X * Y, Y * Y - Y * Z]
        for value in NO_INTEGERS + [0, 2, "xy", X * Y, {0: good[0], 1: good[1]}, [good], [good[0], None], [None, None],
                                    [good[0], good[1].terms()], (good, good), [1, 2], ["x", "y"], BENT, [BENT, BENT],
                                    [True, False], [object(), object()], {1, 2}]:
            self.assertIs(is_forms_through(BENT, 2, value), False)
        for value in (None, 0, "", {}, False, [None], [Form(1, {})], [X], set()):
            self.assertIs(is_forms_through(BENT, 1, value), False)

    def test_greatest_degree(self):
        forms = forms_through(GRID, 9)
        self.assertIs(is_forms_through(GRID, 9, forms), True)
        self.assertIs(is_forms_through(GRID, 9, forms[:-1] + [forms[0]]), False)
        self.assertIs(is_forms_through(GRID, 9, forms[:-1]), False)
        self.assertIs(is_forms_through(GRID, 8, forms), False)


if __name__ == "__main__":
    unittest.main()
