"""Lines through points, and points of lines."""

import unittest

from pointrows.errors import InvalidForm, InvalidLine, InvalidPoint, InvalidSpots, SameLine, SamePoint
from pointrows.forms import Form, letter_forms
from pointrows.lines import line_through, lines_of, meet, passed
from pointrows.points import Spots, told_point
from pointrows.products import primitive
from tests.helpers import (NO_FORMS, NO_LINES, NO_POINTS, NO_SPOTS, det_by_hand, draw_points, draw_table, draws,
                           led_by_hand, look_at_parameters, refused, told_twice)

X, Y, Z = letter_forms()
GRID = Spots([(i, j, 1) for i in range(3) for j in range(3)])


def lines_by_hand(points):
    """The positions of all points on a line with some two of them, where they are three or more."""
    found = []
    for one in range(len(points)):
        for two in range(one):
            on_line = [at for at in range(len(points)) if det_by_hand([points[one], points[two], points[at]]) == 0]
            if len(on_line) >= 3 and on_line not in found:
                found.append(on_line)
    return sorted(found)


class Lines(unittest.TestCase):

    def test_line_through(self):
        self.assertEqual(line_through((1, 0, 1), (0, 1, 1)), X + Y - Z)
        self.assertEqual(line_through([0, 0, 5], (3, 3, 3)), X - Y)
        self.assertEqual(line_through(other=(0, 1, 0), point=(1, 0, 0)), Z)
        self.assertEqual(line_through((2, 1, 1), (-2, 0, 0)), Y - Z)

    def test_line_is_plain_and_passes(self):
        source = draws(111)
        for size in (3, 999999, 10 ** 30):
            for _ in range(8):
                one, other = draw_points(source, 2, size)
                line = line_through(one, other)
                self.assertEqual([line.worth(one), line.worth(other), line.degree], [0, 0, 1])
                self.assertEqual(primitive(line), line)
                self.assertEqual(line_through([-2 * number for number in other], one), line)
                self.assertEqual(told_point([line.terms().get(triple, 0) for triple in (X + Y + Z).terms()]),
                                 tuple(line.terms().get(triple, 0) for triple in (X + Y + Z).terms()))

    def test_same_point(self):
        for one, other in (((1, 2, 3), (1, 2, 3)), ([1, 2, 3], (-2, -4, -6)), ((0, 0, 4), (0, 0, 6))):
            refused(self, SamePoint, {}, line_through, one, other)

    def test_line_through_parameters(self):
        look_at_parameters(self, line_through, [
            ("point", (1, 2, 3), InvalidPoint, NO_POINTS), ("other", (0, 0, 1), InvalidPoint, NO_POINTS)])
        told_twice(self, line_through, [1, 2, 3], [3, 2, 2])

    def test_meet(self):
        self.assertEqual(meet(X + Y - Z, X - Y), (1, 1, 2))
        self.assertEqual(meet(other=X, line=Y.times(-3)), (0, 0, 1))
        self.assertEqual(meet(X, X - Z), (0, 1, 0))
        source = draws(112)
        for size in (3, 999999, 10 ** 25):
            one, two, three = draw_points(source, 3, size)
            if det_by_hand([one, two, three]) != 0:
                self.assertEqual(meet(line_through(one, two), line_through(three, two).times(-5)), told_point(two))
                self.assertIs(type(meet(line_through(one, two), line_through(one, three))), tuple)

    def test_same_line(self):
        for line, other in ((X, X), (X - Y, (Y - X).times(7)), (Z.times(2), Z.times(3))):
            refused(self, SameLine, {}, meet, line, other)

    def test_meet_parameters(self):
        look_at_parameters(self, meet, [("line", X, InvalidLine, NO_LINES), ("other", Y, InvalidLine, NO_LINES)])
        told_twice(self, meet, X + Y, X - Z)

    def test_passed(self):
        self.assertEqual(passed(GRID, X), [0, 1, 2])
        self.assertEqual(passed(GRID, X - Y), [0, 4, 8])
        self.assertEqual(passed(form=(X - Y) * Y, spots=GRID), [0, 3, 4, 6, 8])
        self.assertEqual(passed(GRID, Z), [])
        self.assertEqual(passed(GRID, Form(0, {(0, 0, 0): 2})), [])
        self.assertEqual(passed(GRID, Form(4, {})), list(range(9)))
        self.assertEqual(passed(GRID, X * (X - Z) * (X - Z.times(2))), list(range(9)))
        look_at_parameters(self, passed, [
            ("spots", GRID, InvalidSpots, NO_SPOTS), ("form", X, InvalidForm, NO_FORMS)])
        told_twice(self, passed, GRID, X)


class LinesOf(unittest.TestCase):

    def test_some(self):
        self.assertEqual(lines_of(Spots([(1, 0, 0)])), [])
        self.assertEqual(lines_of(Spots([(1, 0, 0), (0, 1, 0)])), [])
        self.assertEqual(lines_of(Spots([(1, 0, 0), (0, 1, 0), (0, 0, 1), (1, 1, 1)])), [])
        self.assertEqual(lines_of(Spots([(1, 0, 0), (0, 1, 0), (5, 5, 0)])), [[0, 1, 2]])
        self.assertEqual(lines_of(GRID), [[0, 1, 2], [0, 3, 6], [0, 4, 8], [1, 4, 7], [2, 4, 6], [2, 5, 8], [3, 4, 5],
                                          [6, 7, 8]])
        line = Spots([(i, 2 * i, 1) for i in range(24)])
        self.assertEqual(lines_of(spots=line), [list(range(24))])
        self.assertEqual(lines_of(Spots([(i, i * i, 1) for i in range(-9, 9)])), [])
        self.assertEqual(lines_of(Spots([(0, 0, 1), (5, 1, 1), (1, 0, 1), (2, 0, 1), (1, 1, 1), (3, 0, 1), (2, 1, 1)])),
                         [[0, 2, 3, 5], [1, 4, 6]])

    def test_drawn(self):
        source = draws(113)
        for size in (2, 3, 4):
            points = [told_point(point) for point in draw_points(source, 18, size)]
            told = lines_of(Spots(points))
            self.assertEqual(told, lines_by_hand(points))
            for at, one in enumerate(told):
                for other in told[:at]:
                    self.assertLessEqual(len(set(one) & set(other)), 1)

    def test_led(self):
        table = draw_table(draws(114), 999999)
        self.assertEqual(lines_of(Spots([led_by_hand(table, point) for point in GRID.points()])), lines_of(GRID))

    def test_parameters(self):
        look_at_parameters(self, lines_of, [("spots", GRID, InvalidSpots, NO_SPOTS)])
        told_twice(self, lines_of, GRID)
        lines_of(GRID)[0].append(7)
        self.assertEqual(lines_of(GRID)[0], [0, 1, 2])


if __name__ == "__main__":
    unittest.main()
