"""Pairs of some points, and box degrees."""

import unittest

from pointrows.errors import InvalidSpots, TooMany
from pointrows.forms import Form, letter_forms
from pointrows.pairs import box_degrees, is_pair
from pointrows.points import Spots
from pointrows.rows import row
from pointrows.possible import box
from pointrows.tables import form_moved, moved
from tests.helpers import (NO_FORMS, NO_SPOTS, Odd, draw_table, draws, look_at_parameters, refused, told_twice)
from tests.samples import ROWS, SAMPLES, TOPS

X, Y, Z = letter_forms()
SQUARE = Spots([(0, 0, 1), (0, 1, 1), (1, 0, 1), (1, 1, 1)])
BARS = Spots([(0, 0, 1), (1, 0, 1), (2, 0, 1), (0, 1, 1)])
TOO_LONG = ("line of ten", "line of 24", "conic of 18", "conic of 24")


def lines(letter, many):
    """The product of the lines letter = 0, 1, .."""
    found = Form(0, {(0, 0, 0): 1})
    for i in range(many):
        found = found * (letter - Z.times(i))
    return found


class Pairs(unittest.TestCase):

    def test_grids(self):
        for one, two in ((1, 1), (1, 2), (1, 5), (2, 2), (2, 3), (3, 3), (2, 5), (4, 6), (3, 8), (2, 12), (4, 4)):
            spots = Spots([(i, j, 1) for i in range(one) for j in range(two)])
            first, second = lines(X, one), lines(Y, two)
            self.assertIs(is_pair(spots, (first, second)), True)
            self.assertIs(is_pair(spots, (second, first)), True)
            self.assertIs(is_pair(spots, (first.times(-3), second)), True)
            self.assertIs(is_pair(spots, [first, second]), False)
            if one == two:
                self.assertIs(is_pair(spots, (first + second, first - second)), True)
                self.assertIs(is_pair(spots, (first + second, first + second)), False)
            if one < two:
                self.assertIs(is_pair(spots, (first, second + first * Form(two - one, {(0, 0, two - one): 1}))), True)
                self.assertIs(is_pair(spots, (first, first)), False)
            if spots.size > 1:
                self.assertIs(is_pair(spots.without(0), (first, second)), False)
            if one * two < 24:
                self.assertIs(is_pair(spots.with_point((-7, 5, 2)), (first, second)), False)

    def test_moved(self):
        source = draws(741)
        spots = SAMPLES["grid of 3 and 3"]
        pair = (lines(X, 3), lines(Y, 3))
        for size in (3, 999, 999999):
            table = draw_table(source, size)
            led = moved(spots, table)
            told = tuple(form_moved(form, table) for form in pair)
            self.assertIs(is_pair(led, told), True)
            self.assertIs(is_pair(led, (told[0] + told[1], told[1])), True)
            self.assertIs(is_pair(led, pair), False)
            self.assertIs(is_pair(spots, told), False)

    def test_not_the_product(self):
        conics = (X * X - X * Z, Y * Y - Y * Z)
        self.assertIs(is_pair(SQUARE, conics), True)
        self.assertIs(is_pair(SQUARE, (conics[0], conics[1] * X)), False)
        self.assertIs(is_pair(SQUARE, (conics[0], conics[1] * (X + Y + Z))), False)
        self.assertIs(is_pair(SAMPLES["two"], (Z - Y, X - Y)), False)
        three = SQUARE.without(3)
        self.assertIs(is_pair(three, conics), False)

    def test_common_parts(self):
        self.assertIs(is_pair(BARS, (X * Y, Y * Y - Y * Z)), False)
        self.assertIs(is_pair(SQUARE, (X * X - X * Z, X * X - X * Z)), False)
        four = Spots([(i, 0, 1) for i in range(4)])
        self.assertIs(is_pair(four, (Y * X, Y * Z)), False)
        self.assertIs(is_pair(four, (Y, lines(X, 4))), True)
        self.assertIs(is_pair(four, (Y, lines(X, 4) + Y * Y * Y * Z)), True)
        self.assertIs(is_pair(four, (Y, Y * X * X * Z)), False)

    def test_missed_points(self):
        self.assertIs(is_pair(SQUARE, (X * X - X * Z, Y * Y - Z * Z)), False)
        self.assertIs(is_pair(SQUARE, (X * X - Z * Z, Y * Y - Y * Z)), False)
        self.assertIs(is_pair(SAMPLES["one"], (X, Y)), False)
        self.assertIs(is_pair(Spots([(0, 0, 1)]), (X, Y)), True)
        self.assertIs(is_pair(Spots([(0, 0, 1)]), (X, X + Y)), True)
        self.assertIs(is_pair(Spots([(0, 0, 1)]), (X, X.times(2))), False)

    def test_nought_and_numbers(self):
        one = Form(0, {(0, 0, 0): 1})
        point = Spots([(0, 0, 1)])
        for value in ((Form(1, {}), Form(1, {})), (X, Form(1, {})), (Form(1, {}), X), (one, X), (one, one),
                      (Form(0, {}), X), (Form(0, {}), Form(0, {})), (Form(0, {}), one)):
            self.assertIs(is_pair(point, value), False)
        conic = X * X - X * Z
        for value in ((Form(2, {}), conic), (conic, Form(2, {})), (Form(2, {}), Form(2, {})), (Form(1, {}), Form(4, {})),
                      (Form(4, {}), Form(1, {})), (one, Form(4, {}))):
            self.assertIs(is_pair(SQUARE, value), False)

    def test_values(self):
        good = (X * X - X * Z, Y * Y - Y * Z)
        for value in NO_FORMS + [good[0], list(good), good[:1], good + good[:1], (), (good,), [good], (good[0], None),
                                 (None, good[1]), (good[0], good[1].terms()), (good[0], 2), (good[0], Odd()),
                                 (Odd(), good[1]), Odd(), (good[0], [good[1]]), {0: good[0], 1: good[1]}, "xy", ("x", "y"),
                                 (good, good), (SQUARE, SQUARE), 4, (2, 2), (True, True)]:
            self.assertIs(is_pair(SQUARE, value), False)

    def test_no_row_is_needed(self):
        ten, conic = SAMPLES["line of ten"], SAMPLES["conic of 24"]
        self.assertIs(is_pair(ten, (Y - Z.times(3), lines(X, 10))), True)
        self.assertIs(is_pair(ten, (Y - Z.times(3), lines(Y, 10))), False)
        self.assertIs(is_pair(conic, (X * Z - Y * Y, Form(12, {(12, 0, 0): 1}))), False)
        over = lines(Y, 1)
        for i in range(1, 12):
            over = over * (Y - X.times(i))
        half = Spots(conic.points()[:12])
        self.assertIs(is_pair(half, (X * Z - Y * Y, over)), False)
        both = Spots([(1, i, 0) for i in range(12)] + [(1, i, 1) for i in range(12)])
        self.assertIs(is_pair(both, (Z * (X - Z), over)), True)


class BoxDegrees(unittest.TestCase):

    def test_samples(self):
        for name, told in ROWS.items():
            if told is None:
                refused(self, TooMany, {"what": "degree", "limit": 8}, box_degrees, SAMPLES[name])
            else:
                self.assertEqual(box_degrees(SAMPLES[name]), (TOPS[name], len(told) + 1 - TOPS[name]), name)
                self.assertIs(type(box_degrees(SAMPLES[name])), tuple)

    def test_some(self):
        self.assertEqual(box_degrees(BARS), (2, 2))
        self.assertEqual(box_degrees(SQUARE), (2, 2))
        self.assertEqual(box_degrees(SAMPLES["six"]), (3, 1))
        self.assertEqual(box_degrees(SAMPLES["one"]), (1, 1))
        self.assertEqual(box_degrees(spots=SAMPLES["line of nine"]), (1, 9))

    def test_of_pairs(self):
        for one, two in ((1, 4), (2, 3), (3, 3), (4, 6), (2, 5)):
            spots = Spots([(i, j, 1) for i in range(two) for j in range(one)])
            self.assertEqual(box_degrees(spots), (one, two))
            self.assertEqual(row(spots), box(one, two))

    def test_moved(self):
        for at, name in enumerate(ROWS):
            if name not in TOO_LONG:
                led = moved(SAMPLES[name], draw_table(draws(750 + at), 5 + at % 2 * 900000))
                self.assertEqual(box_degrees(led), box_degrees(SAMPLES[name]))


class Parameters(unittest.TestCase):

    def test_all(self):
        look_at_parameters(self, box_degrees, [("spots", BARS, InvalidSpots, NO_SPOTS)])
        told_twice(self, box_degrees, BARS)
        for value in (None, (X * X - X * Z, Y * Y - Y * Z)):
            look_at_parameters(self, is_pair, [("spots", SQUARE, InvalidSpots, NO_SPOTS), ("value", value, None, [])])
            told_twice(self, is_pair, SQUARE, value)


if __name__ == "__main__":
    unittest.main()
