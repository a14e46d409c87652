"""The ninth point that two forms of degree 3 through eight points have in common."""

import unittest

from pointrows.conditions import forms_through
from pointrows.errors import InvalidSpots, NoNinth, NotEight
from pointrows.forms import letter_forms
from pointrows.left import rest
from pointrows.nets import net
from pointrows.ninth import is_ninth, ninth
from pointrows.points import Spots
from pointrows.products import no_common
from pointrows.rows import row
from pointrows.stairs import stair
from pointrows.tables import led, moved
from pointrows.verdicts import is_all
from tests.helpers import (NO_POINTS, NO_SPOTS, Odd, draw_points, draw_table, draws, look_at_parameters, refused,
                           told_twice, worth_by_hand)
from tests.samples import SAMPLES

X, Y, Z = letter_forms()
NINE = Spots([[i, j, 1] for i in range(3) for j in range(3)])
EIGHT = NINE.without(4)
DRAWN = Spots([(0, 0, 1), (3, 1, 1), (-2, 5, 1), (1, -4, 1), (6, 2, 1), (-5, -3, 1), (2, 7, 1), (-1, 2, 3)])


class Ninths(unittest.TestCase):

    def look(self, eight):
        """The ninth point: told, none of the eight, on all forms of degree 3, and the nine are all."""
        point = ninth(eight)
        self.assertIs(type(point), tuple)
        self.assertIsNone(eight.place(point))
        for form in forms_through(eight, 3):
            self.assertEqual(worth_by_hand(form, point), 0)
        nine = eight.with_point(point)
        self.assertEqual(nine.points()[8], point)
        self.assertEqual(row(nine), [1, 2, 3, 2, 1])
        self.assertIs(is_all(nine), True)
        self.assertIs(is_ninth(eight, point), True)
        self.assertIs(is_ninth(eight, eight.points()[0]), False)
        return nine

    def test_each_point_of_a_net(self):
        source = draws(851)
        for size in (None, 4, 999999, 999999):
            nine = NINE if size is None else moved(NINE, draw_table(source, size))
            for position in range(9):
                self.assertEqual(ninth(nine.without(position)), nine.points()[position])
                self.assertEqual(ninth(rest(nine, [position])), nine.points()[position])

    def test_drawn_ones(self):
        source, looked_at = draws(852), 0
        while looked_at < 12:
            eight = Spots(draw_points(source, 8, (3, 9, 999999)[looked_at % 3]))
            if row(eight) == [1, 2, 3, 2]:
                try:
                    nine = self.look(eight)
                except NoNinth:
                    continue
                looked_at += 1
                for position in range(8):
                    self.assertEqual(ninth(nine.without(position)), nine.points()[position])

    def test_moved(self):
        source = draws(853)
        point, spots = ninth(DRAWN), DRAWN
        for size in (3, 999999):
            table = draw_table(source, size)
            spots, point = moved(spots, table), led(table, point)
            self.assertEqual(ninth(spots), point)

    def test_corners_far_out(self):
        # The lines x = 0, x = z, z = 0 and y = 0, y = x + z, x + y = 5 z: three points lie far out.
        nine = net([X, X - Z, Z], [Y, Y - X - Z, X + Y - Z.times(5)])
        self.assertEqual(nine.points()[6:], [(1, 0, 0), (1, 1, 0), (1, -1, 0)])
        for position in range(9):
            self.assertEqual(ninth(nine.without(position)), nine.points()[position])

    def test_not_eight(self):
        for spots in (NINE, EIGHT.without(0), SAMPLES["one"], SAMPLES["line of ten"], SAMPLES["drawn 24"]):
            refused(self, NotEight, {}, ninth, spots)
            refused(self, NotEight, {}, is_ninth, spots, (0, 0, 1))
            refused(self, NotEight, {}, is_ninth, spots, None)

    def test_other_rows(self):
        for told in ([1, 1, 1, 1, 1, 1, 1, 1], [1, 2, 1, 1, 1, 1, 1], [1, 2, 2, 2, 1], [1, 2, 2, 1, 1, 1], [1, 2, 3, 1, 1],
                     [1, 2, 2, 1, 1, 1]):
            spots = stair(told)
            self.assertEqual(spots.size, 8)
            refused(self, NoNinth, {}, ninth, spots)
            refused(self, NoNinth, {}, is_ninth, spots, (0, 0, 1))
        refused(self, NoNinth, {}, ninth, Spots([(1, i, i * i) for i in range(8)]))

    def test_a_common_part(self):
        # Seven points of a conic and one beside: the conic is a part of both forms, which have the row all the same.
        seven = Spots([(1, i, i * i) for i in range(7)] + [(2, 7, 1)])
        self.assertEqual(row(seven), [1, 2, 3, 2])
        refused(self, NoNinth, {}, ninth, seven)
        for value in (None, (2, 7, 1), (0, 0, 1), (1, 7, 49)):
            refused(self, NoNinth, {}, is_ninth, seven, value)
        refused(self, NoNinth, {}, ninth, moved(seven, draw_table(draws(854), 999999)))

    def test_the_ninth_is_one_of_the_eight(self):
        # The form (x z - y y)(y - 4 z) has a double point in (16, 4, 1): what meets it there does so twice.
        eight = Spots([(16, 4, 1)] + [(i * i, i, 1) for i in (0, 1, 2, -1, 3)] + [(1, 4, 1), (2, 4, 1)])
        double = (X * Z - Y * Y) * (Y - Z.times(4))
        self.assertEqual([double.worth(point) for point in eight.points()], [0] * 8)
        self.assertEqual(row(eight), [1, 2, 3, 2])
        self.assertIs(no_common(*forms_through(eight, 3)), True)
        for spots in (eight, moved(eight, draw_table(draws(855), 99)), Spots(eight.points()[::-1])):
            refused(self, NoNinth, {}, ninth, spots)
            for value in (spots.points()[0], spots.points()[7], None):
                refused(self, NoNinth, {}, is_ninth, spots, value)

    def test_some(self):
        self.assertEqual([ninth(rest(NINE, [4])), is_ninth(rest(NINE, [0]), [0, 0, 5]), is_ninth(rest(NINE, [0]), (0, 1, 1))],
                         [(1, 1, 1), True, False])
        self.assertEqual(ninth(spots=EIGHT), (1, 1, 1))
        self.look(DRAWN)

    def test_is_ninth(self):
        for value in ((1, 1, 1), [1, 1, 1], (-1, -1, -1), [5, 5, 5], (-7, -7, -7), [10 ** 29, 10 ** 29, 10 ** 29]):
            self.assertIs(is_ninth(EIGHT, value), True)
            self.assertIs(is_ninth(value=value, spots=EIGHT), True)
        for value in NO_POINTS + [(1, 1, 0), (1, 1, 2), (0, 0, 1), (1, -1, 1), (True, True, True), (1, 1, True), EIGHT, NINE,
                                  [(1, 1, 1)], ((1, 1, 1),), "111", Odd(), 4]:
            self.assertIs(is_ninth(EIGHT, value), False)


class Parameters(unittest.TestCase):

    def test_all(self):
        look_at_parameters(self, ninth, [("spots", EIGHT, InvalidSpots, NO_SPOTS)])
        told_twice(self, ninth, EIGHT)
        for value in (None, [2, 2, 2]):
            look_at_parameters(self, is_ninth, [("spots", EIGHT, InvalidSpots, NO_SPOTS), ("value", value, None, [])])
            told_twice(self, is_ninth, EIGHT, value)


if __name__ == "__main__":
    unittest.main()
