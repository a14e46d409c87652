"""What is left of the points that two forms have in common, and forms that pass all but one of them."""

import unittest

from pointrows.conditions import forms_through
from pointrows.errors import InvalidPosition, InvalidPositions, InvalidSpots, NotAll, TooMany
from pointrows.forms import Form, letter_forms
from pointrows.left import is_last, rest, rest_row
from pointrows.ninth import ninth
from pointrows.pairs import box_degrees
from pointrows.points import Spots
from pointrows.rows import row
from pointrows.tables import form_moved, moved
from pointrows.verdicts import is_all
from tests.helpers import (NO_FORMS, NO_SPOTS, Odd, draw_table, draws, look_at_parameters, no_position_lists,
                           no_positions, refused, told_twice, triples_by_hand)
from tests.samples import ROWS, SAMPLES

X, Y, Z = letter_forms()
NINE = Spots([[i, j, 1] for i in range(3) for j in range(3)])
SQUARE = Spots([(0, 0, 1), (0, 1, 1), (1, 0, 1), (1, 1, 1)])
TOO_LONG = ("line of ten", "line of 24", "conic of 18", "conic of 24")
TOO_MANY = {"what": "degree", "limit": 8}
# All that x x + y y - 25 z z and x y - 12 z z have in common.
CONICS = Spots([(3, 4, 1), (4, 3, 1), (-3, -4, 1), (-4, -3, 1)])


def two_cubics():
    """Nine points of two forms of degree 3 that are no products of lines: drawn eight, and the ninth."""
    eight = Spots([(0, 0, 1), (3, 1, 1), (-2, 5, 1), (1, -4, 1), (6, 2, 1), (-5, -3, 1), (2, 7, 1), (-1, 2, 3)])
    return eight.with_point(ninth(eight))


class Left(unittest.TestCase):

    def look(self, spots, positions):
        """What is left, and its row, by hand."""
        points = [point for at, point in enumerate(spots.points()) if at not in positions]
        self.assertEqual(rest(spots, positions), Spots(points))
        self.assertEqual(rest_row(spots, positions), row(Spots(points)))
        self.assertIs(type(rest_row(spots, positions)), list)

    def test_grids(self):
        source = draws(841)
        for one, two in ((1, 1), (1, 6), (2, 2), (2, 4), (3, 3), (2, 7), (3, 5), (4, 4), (4, 6)):
            spots = Spots([(i, j, 1) for i in range(two) for j in range(one)])
            size = spots.size
            self.look(spots, [])
            self.look(spots, ())
            self.look(spots, source.sample(range(size), size - 1))
            for _ in range(6):
                self.look(spots, tuple(source.sample(range(size), source.randint(0, size - 1))))

    def test_all_of_nine(self):
        for taken in range(2 ** 9 - 1):
            if taken % 5 == 0:
                self.look(NINE, [at for at in range(9) if taken >> at & 1])

    def test_moved(self):
        source = draws(842)
        for one, two in ((2, 2), (2, 5), (3, 3), (3, 4)):
            spots = Spots([(i, j, 1) for i in range(two) for j in range(one)])
            for size in (4, 999999, 999999):
                spots = moved(spots, draw_table(source, size))
                for many in (0, 1, spots.size // 2, spots.size - 1):
                    self.look(spots, source.sample(range(spots.size), many))

    def test_conics_and_cubics(self):
        nine, source = two_cubics(), draws(843)
        for spots in (CONICS, nine, moved(nine, draw_table(source, 999999))):
            self.assertIs(is_all(spots), True)
            for many in range(spots.size):
                for _ in range(2):
                    self.look(spots, source.sample(range(spots.size), many))

    def test_some(self):
        self.assertEqual([rest_row(NINE, [0]), rest_row(NINE, [0, 1, 2]), rest_row(NINE, [])],
                         [[1, 2, 3, 2], [1, 2, 2, 1], [1, 2, 3, 2, 1]])
        self.assertEqual(rest(NINE, [0, 1, 2, 3, 4, 5, 6]).points(), [(2, 1, 1), (2, 2, 1)])
        self.assertEqual(rest(positions=[8, 0], spots=NINE).points(), NINE.points()[1:8])
        self.assertEqual(rest_row(positions=(1,), spots=SQUARE), [1, 2])

    def test_not_all(self):
        for name, told in ROWS.items():
            spots = SAMPLES[name]
            error, attributes = (TooMany, TOO_MANY) if told is None else (NotAll, {})
            if told is None or not is_all(spots):
                for function in (rest, rest_row):
                    for positions in ([], [0], (1, 2)):
                        refused(self, error, attributes, function, spots, positions)
                    refused(self, InvalidPositions, {"value": [0, 0]}, function, spots, [0, 0])
                refused(self, error, attributes, is_last, spots, 0, None)
                refused(self, InvalidPosition, {"value": spots.size}, is_last, spots, spots.size, None)
        self.assertTrue(all(ROWS[name] is None for name in TOO_LONG))

    def test_parameters(self):
        for function in (rest, rest_row):
            for spots in (NINE, SQUARE):
                look_at_parameters(self, function, [
                    ("spots", spots, InvalidSpots, NO_SPOTS),
                    ("positions", [2, 0], InvalidPositions, no_position_lists(spots.size))])
            refused(self, InvalidPositions, {"value": [0]}, function, SAMPLES["one"], [0])
            for positions in ([], [0, 3], (2,)):
                told_twice(self, function, NINE, positions)
        self.assertEqual(rest(SAMPLES["one"], []), SAMPLES["one"])
        self.assertEqual(rest_row(SAMPLES["one"], ()), [1])


class LastOnes(unittest.TestCase):

    def test_forms_through_the_others(self):
        nine, source = two_cubics(), draws(844)
        for spots in (NINE, SQUARE, CONICS, nine, moved(nine, draw_table(source, 999)), SAMPLES["grid of 2 and 5"],
                      SAMPLES["line of five"], SAMPLES["grid of 4 and 6"]):
            degree = sum(box_degrees(spots)) - 3
            for position in (0, spots.size // 2, spots.size - 1):
                others = spots.without(position)
                forms = forms_through(others, degree)
                for form in forms[:3] + [Form(degree, {})]:
                    self.assertIs(is_last(spots, position, form), True)
                    # It passes the last point, too.
                    self.assertEqual(form.worth(spots.points()[position]), 0)
                for triple in triples_by_hand(degree)[:3]:
                    form = Form(degree, {triple: 1})
                    wanted = all(form.worth(point) == 0 for point in others.points())
                    self.assertIs(is_last(spots, position, form), wanted)
                for other in (degree - 1, degree + 1):
                    if 0 <= other <= 9:
                        self.assertIs(is_last(spots, position, Form(other, {})), False)
                        self.assertTrue(not any(is_last(spots, position, form) for form in forms_through(others, other)))

    def test_some(self):
        cubic = X * X * X - (X * X * Z).times(3) + (X * Z * Z).times(2)
        self.assertEqual([is_last(NINE, 0, cubic), is_last(NINE, 0, Z * Z * Z), is_last(NINE, 0, None)],
                         [True, False, False])
        self.assertIs(is_last(value=cubic.times(-7), position=4, spots=NINE), True)
        self.assertIs(is_last(NINE, 0, X * (X - Z) * (X - Z.times(3))), False)
        self.assertIs(is_last(NINE, 0, cubic * X), False)
        # The form that passes all others and not this one has the degree a + b - 2.
        self.assertIs(is_last(NINE, 0, (X - Z) * (X - Z.times(2)) * (Y - Z) * (Y - Z.times(2))), False)
        self.assertIs(is_last(NINE, 0, (X - Z) * (X - Z.times(2)) * (Y - Z)), False)
        self.assertIs(is_last(NINE, 8, X * (X - Z) * (Y - Z)), False)
        one = SAMPLES["one"]
        for value in (Form(0, {}), Form(0, {(0, 0, 0): 1}), Form(1, {}), None, -1):
            self.assertIs(is_last(one, 0, value), False)
        two = SAMPLES["two"]
        self.assertEqual([is_last(two, 0, Form(0, {})), is_last(two, 0, Form(0, {(0, 0, 0): 2}))], [True, False])

    def test_any_values(self):
        for value in NO_FORMS + [(X * X * X,), {3: X}, Odd(), NINE]:
            self.assertIs(is_last(NINE, 1, value), False)

    def test_moved(self):
        source = draws(845)
        cubic = X * (X - Z) * (X - Z.times(2))
        for size in (5, 999999):
            table = draw_table(source, size)
            led = moved(NINE, table)
            self.assertIs(is_last(led, 3, form_moved(cubic, table)), True)
            self.assertIs(is_last(led, 3, cubic), False)

    def test_parameters(self):
        for value in (None, X * X * X):
            look_at_parameters(self, is_last, [
                ("spots", NINE, InvalidSpots, NO_SPOTS), ("position", 2, InvalidPosition, no_positions(9)),
                ("value", value, None, [])])
            told_twice(self, is_last, NINE, 2, value)


if __name__ == "__main__":
    unittest.main()
