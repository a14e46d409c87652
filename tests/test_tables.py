"""Tables: what they lead, undone ones, one behind another."""

import unittest
from math import gcd

from pointrows.errors import InvalidForm, InvalidPoint, InvalidSpots, InvalidTable, NotFour
from pointrows.forms import Form, letter_forms
from pointrows.lines import lines_of
from pointrows.points import Spots, told_point
from pointrows.products import primitive
from pointrows.tables import behind, form_moved, four_table, is_table, led, moved, undone_table
from tests.helpers import (NO_FORMS, NO_POINTS, NO_SPOTS, NO_TABLES, det_by_hand, draw_form, draw_points, draw_table,
                           draws, led_by_hand, look_at_parameters, refused, told_twice)

X, Y, Z = letter_forms()
SAME = ((1, 0, 0), (0, 1, 0), (0, 0, 1))
TURN = [[0, -1, 0], [1, 0, 0], [0, 0, 1]]
FOUR = Spots([(0, 0, 1), (1, 0, 1), (0, 1, 1), (1, 1, 1)])
CORNERS = [(1, 0, 0), (0, 1, 0), (0, 0, 1), (1, 1, 1)]


class Tables(unittest.TestCase):

    def told_plain(self, table):
        """The table is a plain one."""
        self.assertTrue(is_table(table))
        self.assertEqual([type(table)] + [type(row) for row in table], [tuple] * 4)
        numbers = [number for row in table for number in row]
        self.assertEqual(gcd(*numbers), 1)
        self.assertGreater([number for number in numbers if number != 0][0], 0)

    def test_is_table(self):
        for value in (SAME, TURN, [[0, 0, 1], (0, 1, 0), [1, 0, 0]], ([2, 0, 0], [0, -2, 0], [0, 0, 10 ** 600])):
            self.assertIs(is_table(value), True)
            self.assertIs(is_table(value=value), True)
        for value in NO_TABLES + [Form(1, {}), FOUR]:
            self.assertIs(is_table(value), False)

    def test_led(self):
        self.assertEqual(led(TURN, (1, 2, 1)), (2, -1, -1))
        self.assertEqual(led(point=[-2, -4, -2], table=TURN), (2, -1, -1))
        self.assertEqual(led(SAME, [0, -4, 6]), (0, 2, -3))
        source = draws(121)
        for size in (3, 999999, 10 ** 25):
            table = draw_table(source, size)
            for point in draw_points(source, 5, size):
                self.assertEqual(led(table, point), told_point(led_by_hand(table, point)))
                self.assertEqual(led([[-3 * number for number in row] for row in table], point), led(table, point))
        look_at_parameters(self, led, [
            ("table", TURN, InvalidTable, NO_TABLES), ("point", (1, 2, 1), InvalidPoint, NO_POINTS)])
        told_twice(self, led, TURN, [1, 2, 1])

    def test_undone(self):
        self.assertEqual(undone_table(TURN), ((0, 1, 0), (-1, 0, 0), (0, 0, 1)))
        self.assertEqual(undone_table([[5, 0, 0], [0, 5, 0], [0, 0, 5]]), SAME)
        self.assertEqual(undone_table(table=((0, 0, -2), (0, -2, 0), (-2, 0, 0))), ((0, 0, 1), (0, 1, 0), (1, 0, 0)))
        source = draws(122)
        for size in (2, 9, 999999):
            table = draw_table(source, size)
            undone = undone_table(table)
            self.told_plain(undone)
            for point in draw_points(source, 5, 9):
                self.assertEqual(led(undone, led(table, point)), told_point(point))
                self.assertEqual(led(table, led(undone, point)), told_point(point))
            self.assertEqual(behind(undone, table), SAME)
            self.assertEqual(behind(table, undone), SAME)
            self.assertEqual(undone_table(undone), behind(table, SAME))
        look_at_parameters(self, undone_table, [("table", TURN, InvalidTable, NO_TABLES)])
        told_twice(self, undone_table, TURN)

    def test_behind(self):
        self.assertEqual(behind(TURN, TURN), ((1, 0, 0), (0, 1, 0), (0, 0, -1)))
        self.assertEqual(behind([[2, 0, 0], [0, 4, 0], [0, 0, -6]], SAME), ((1, 0, 0), (0, 2, 0), (0, 0, -3)))
        source = draws(123)
        for size in (2, 9, 999999):
            one, other = draw_table(source, size), draw_table(source, size)
            told = behind(other=other, table=one)
            self.told_plain(told)
            for point in draw_points(source, 5, 9):
                self.assertEqual(led(told, point), led(one, led(other, point)))
        look_at_parameters(self, behind, [
            ("table", TURN, InvalidTable, NO_TABLES), ("other", SAME, InvalidTable, NO_TABLES)])
        told_twice(self, behind, TURN, [[1, 2, 0], [0, 1, 0], [0, 0, 1]])


class Moved(unittest.TestCase):

    def test_spots(self):
        self.assertEqual(moved(FOUR, TURN).points(), [(0, 0, 1), (0, 1, 1), (1, 0, -1), (1, -1, -1)])
        self.assertEqual(moved(table=SAME, spots=FOUR), FOUR)
        grid = Spots([(i, j, 1) for i in range(4) for j in range(6)])
        source = draws(131)
        for size in (3, 999999):
            table = draw_table(source, size)
            led_grid = moved(grid, table)
            self.assertEqual(led_grid.points(), [led(table, point) for point in grid.points()])
            self.assertEqual(lines_of(led_grid), lines_of(grid))
            self.assertEqual(moved(led_grid, undone_table(table)), grid)
        look_at_parameters(self, moved, [
            ("spots", FOUR, InvalidSpots, NO_SPOTS), ("table", TURN, InvalidTable, NO_TABLES)])
        told_twice(self, moved, FOUR, TURN)

    def test_forms(self):
        self.assertEqual(form_moved(X + Y - Z, TURN), X - Y + Z)
        self.assertEqual(form_moved((X - Y).times(-6), SAME), X - Y)
        self.assertEqual(form_moved(table=TURN, form=Form(0, {(0, 0, 0): -4})), Form(0, {(0, 0, 0): 1}))
        for degree in (0, 2, 12):
            self.assertEqual(form_moved(Form(degree, {}), TURN), Form(degree, {}))
        look_at_parameters(self, form_moved, [
            ("form", X, InvalidForm, NO_FORMS), ("table", TURN, InvalidTable, NO_TABLES)])
        refused(self, InvalidTable, {"value": [[1, 1, 1]] * 3}, form_moved, Form(2, {}), [[1, 1, 1]] * 3)
        told_twice(self, form_moved, X + Y - Z, TURN)

    def test_forms_pass_what_is_led(self):
        source = draws(132)
        for degree, size in ((1, 5), (2, 5), (3, 999999), (6, 3)):
            table = draw_table(source, size)
            points = draw_points(source, 6, 4)
            form = primitive(draw_form(source, degree - 1, 4) * (X - Y))
            told = form_moved(form, table)
            self.assertEqual([told.degree, primitive(told)], [degree, told])
            self.assertEqual(form_moved(told, undone_table(table)), form)
            for point in points + [(1, 1, 0), (2, 2, -5), (0, 0, 1)]:
                self.assertEqual(told.worth(led(table, point)) == 0, form.worth(point) == 0)
            other = draw_table(source, 3)
            self.assertEqual(form_moved(told, other), form_moved(form, behind(other, table)))


class Fours(unittest.TestCase):

    def test_some(self):
        self.assertEqual(four_table(FOUR), ((0, 1, 0), (0, 0, 1), (-1, 1, 1)))
        self.assertEqual(four_table(spots=Spots(CORNERS)), SAME)

    def test_drawn(self):
        source = draws(141)
        for size in (2, 9, 999999):
            for _ in range(6):
                spots = Spots(draw_points(source, 4, size))
                if lines_of(spots):
                    refused(self, NotFour, {}, four_table, spots)
                else:
                    table = four_table(spots)
                    Tables.told_plain(self, table)
                    self.assertEqual([led(table, point) for point in CORNERS], spots.points())
                    self.assertNotEqual(det_by_hand(table), 0)

    def test_any_two_fours(self):
        one = Spots([(0, 0, 1), (2, 1, 1), (-1, 3, 1), (4, 4, 1)])
        other = Spots([(1, 0, 0), (1, 1, 0), (3, 0, 1), (0, 5, -2)])
        self.assertEqual(moved(one, behind(four_table(other), undone_table(four_table(one)))), other)

    def test_not_four(self):
        line = [(0, 0, 1), (1, 0, 1), (2, 0, 1)]
        for points in (CORNERS[:3], CORNERS + [(1, 2, 3)], CORNERS[:1], [(i, i * i, 1) for i in range(24)],
                       line + [(0, 1, 1)], [(0, 1, 1)] + line, line[:2] + [(0, 1, 1)] + line[2:],
                       line[:1] + [(0, 1, 1)] + line[1:], line + [(3, 0, 1)]):
            refused(self, NotFour, {}, four_table, Spots(points))
        look_at_parameters(self, four_table, [("spots", FOUR, InvalidSpots, NO_SPOTS)])
        told_twice(self, four_table, FOUR)


if __name__ == "__main__":
    unittest.main()
