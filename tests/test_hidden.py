"""The form that is hidden where a row stands still, and the points on and off it."""

import unittest

from pointrows.conditions import forms_through
from pointrows.errors import InvalidPlace, InvalidSpots, NotStill, TooMany
from pointrows.forms import Form, letter_forms
from pointrows.hidden import hidden_form, hidden_points
from pointrows.points import Spots
from pointrows.products import common_form, quotient
from pointrows.rows import row
from pointrows.stairs import stair
from pointrows.still import row_off, row_on, still_places
from pointrows.tables import form_moved, moved
from tests.helpers import (NO_COUNTS, NO_SPOTS, draw_points, draw_table, draws, look_at_parameters, refused, told_twice,
                           worth_by_hand)
from tests.samples import SAMPLES
from tests.test_possible import ROWS_BY_HAND

X, Y, Z = letter_forms()
FAR = Spots([(0, 0, 1), (1, 0, 1), (2, 0, 1), (3, 0, 1), (0, 1, 1)])
BOW = Spots([(1, 0, 0), (1, 1, 1), (1, 2, 4), (1, 3, 9), (1, -1, 1), (1, -2, 4), (1, -3, 9), (0, 0, 1)])
TOO_LONG = ("line of ten", "line of 24", "conic of 18", "conic of 24")
# Points of the cubic x x x = y y z.
CUBIC = [(i, 1, i * i * i) for i in range(-7, 9)]


def common_of_all(spots, degree):
    """The common part of all forms of the degree through the points."""
    forms = forms_through(spots, degree)
    found = forms[0]
    for form in forms[1:]:
        found = common_form(found, form)
    return found


class Hidden(unittest.TestCase):

    def look(self, spots, parts=True):
        """At each place at which the row stands still: what is told, looked at by hand."""
        told, forms = row(spots), []
        for place in range(10):
            if place not in still_places(spots):
                refused(self, NotStill, {}, hidden_form, spots, place)
                refused(self, NotStill, {}, hidden_points, spots, place)
                continue
            form, (on, off) = hidden_form(spots, place), hidden_points(spots, place)
            self.assertIs(type(hidden_points(spots, place)), tuple)
            self.assertEqual([type(on), type(off)], [list, list])
            self.assertEqual(form.degree, told[place])
            worths = [worth_by_hand(form, point) for point in spots.points()]
            self.assertEqual(on, [at for at, worth in enumerate(worths) if worth == 0])
            self.assertEqual(off, [at for at, worth in enumerate(worths) if worth != 0])
            if parts:
                self.assertEqual(form, common_of_all(spots, place))
                self.assertEqual(form, common_of_all(spots, place + 1))
            points = spots.points()
            self.assertEqual(row(Spots([points[at] for at in on])), row_on(told, place))
            if off:
                self.assertEqual(row(Spots([points[at] for at in off])), row_off(told, place))
            else:
                self.assertEqual(row_off(told, place), [])
            forms.append(form)
        for one, other in zip(forms, forms[1:]):
            self.assertIsNotNone(quotient(one, other))
            self.assertIs(one == other, one.degree == other.degree)
        return forms

    def test_stairs(self):
        for at, told in enumerate(ROWS_BY_HAND):
            if at % 11 == 0:
                forms = self.look(stair(told), parts=at % 3 == 0)
                for form in forms:
                    steps = [Y - Z.times(j) for j in range(form.degree)]
                    self.assertTrue(all(quotient(form, step) is not None for step in steps))

    def test_moved(self):
        for at, told in enumerate(([1, 2, 2, 2], [1, 2, 3, 2, 2, 1, 1], [1, 2, 3, 3, 3, 2], [1, 1, 1, 1],
                                   [1, 2, 3, 4, 3, 2, 2], [1, 2, 2, 2, 1, 1, 1])):
            spots, source = stair(told), draws(710 + at)
            forms = self.look(spots)
            self.assertTrue(forms)
            for size in (5, 999999):
                table = draw_table(source, size)
                led = moved(spots, table)
                self.assertEqual(self.look(led, parts=size == 5), [form_moved(form, table) for form in forms])

    def test_lines_and_conics(self):
        self.assertEqual(self.look(FAR), [Y])
        self.assertEqual(self.look(BOW), [X * Z - Y * Y])
        self.assertEqual(hidden_points(FAR, 2), ([0, 1, 2, 3], [4]))
        self.assertEqual(hidden_points(place=2, spots=BOW), (list(range(8)), []))
        self.assertEqual(hidden_form(place=2, spots=FAR), Y)
        conic = [(1, i, i * i) for i in range(-5, 6)]
        forms = self.look(Spots(conic + [(1, 5, 7), (0, 1, 3), (2, 1, 9)]))
        self.assertEqual(forms, [X * Z - Y * Y] * len(forms))
        self.assertTrue(forms)
        both = Spots([(i, 0, 1) for i in range(1, 6)] + [(0, i, 1) for i in range(1, 7)] + [(7, 7, 1)])
        forms = self.look(both)
        self.assertIn(X * Y, forms)

    def test_cubics(self):
        cubic = X * X * X - Y * Y * Z
        self.assertEqual([cubic.worth(point) for point in CUBIC], [0] * len(CUBIC))
        self.assertIn(cubic, self.look(Spots(CUBIC)))
        spots = Spots([(1, 2, 3)] + CUBIC)
        self.assertEqual(self.look(spots), [cubic])
        self.assertEqual(hidden_points(spots, 4), (list(range(1, 17)), [0]))

    def test_samples_and_drawn_ones(self):
        for name in ("one", "bent", "line of five", "line of nine", "conic of 17", "nine of a line, one beside",
                     "two lines", "grid of 4 and 6", "drawn near"):
            self.look(SAMPLES[name], parts=name != "grid of 4 and 6")
        source = draws(720)
        for many in (8, 12, 20):
            self.look(Spots(draw_points(source, many, 2)))

    def test_plain_ones(self):
        table = draw_table(draws(721), 9)
        for spots in (FAR, BOW, moved(FAR, table), moved(BOW, table)):
            form = hidden_form(spots, 2)
            numbers = list(form.terms().values())
            self.assertGreater(numbers[0], 0)
            self.assertFalse(any(all(number % by == 0 for number in numbers) for by in (2, 3, 5, 7, 11)))

    def test_too_many(self):
        for name in TOO_LONG:
            for place in (0, 1, 2, 9, 10 ** 29):
                for function in (hidden_form, hidden_points):
                    refused(self, TooMany, {"what": "degree", "limit": 8}, function, SAMPLES[name], place)
            refused(self, InvalidPlace, {"value": True}, hidden_form, SAMPLES[name], True)


class Parameters(unittest.TestCase):

    def test_all(self):
        for function in (hidden_form, hidden_points):
            look_at_parameters(self, function, [
                ("spots", FAR, InvalidSpots, NO_SPOTS), ("place", 2, InvalidPlace, NO_COUNTS)])
            told_twice(self, function, FAR, 2)
            refused(self, NotStill, {}, function, FAR, 10 ** 29)
        hidden_points(FAR, 2)[0].clear()
        self.assertEqual(hidden_points(FAR, 2), ([0, 1, 2, 3], [4]))
        self.assertIsInstance(hidden_form(FAR, 2), Form)


if __name__ == "__main__":
    unittest.main()
