"""Points, told in one way, and Spots."""

import unittest

from pointrows.errors import InvalidPoint, InvalidPoints, InvalidPosition, InvalidSpots, OneLeft, PointThere, TooMany
from pointrows.forms import Form
from pointrows.points import Spots, is_point, same_points, told_point
from tests.helpers import (NO_POINTS, NO_SPOTS, cross_by_hand, draw_points, draws, look_at_parameters, no_positions,
                           refused, told_twice)

FOUR = [(0, 0, 1), (2, 0, 2), [0, -3, -3], (1, 1, 1)]
MANY = [(i, j, 1) for i in range(4) for j in range(6)]
NO_POINT_LISTS = [None, True, 0, 7, "", "abc", {}, {(1, 0, 0): 1}, set(), object(), Form(1, {}), Spots([(1, 0, 0)]), [],
                  (), MANY + [(1, 0, 0)], tuple(MANY) + ((1, 0, 0),), [None] * 25, b"abc", range(3)]


class Points(unittest.TestCase):

    def test_is_point(self):
        for value in ((1, 0, 0), [0, 0, -1], (0, -4, 6), [10 ** 600, 0, 0], (-1, -1, -1), (5, 5, 5)):
            self.assertIs(is_point(value), True)
            self.assertIs(is_point(value=value), True)
        for value in NO_POINTS + [Form(1, {}), Spots([(1, 0, 0)])]:
            self.assertIs(is_point(value), False)

    def test_told_point(self):
        for point, told in (((0, -4, 6), (0, 2, -3)), ([2, 4, 2], (1, 2, 1)), ((-2, 0, 0), (1, 0, 0)),
                            ([0, 0, -7], (0, 0, 1)), ((0, 3, 0), (0, 1, 0)), ((-6, 9, 15), (2, -3, -5)),
                            ((6, 10, 15), (6, 10, 15)), ((10 ** 40, -(10 ** 41), 0), (1, -10, 0))):
            self.assertEqual(told_point(point), told)
            self.assertIs(type(told_point(point=point)), tuple)

    def test_multiples(self):
        source = draws(101)
        for point in draw_points(source, 20, 8) + draw_points(source, 5, 999999):
            told = told_point(point)
            self.assertEqual(cross_by_hand(told, point), [0, 0, 0])
            self.assertGreater([number for number in told if number != 0][0], 0)
            self.assertEqual(told_point(told), told)
            for many in (-1, 2, -3, 10 ** 30):
                self.assertEqual(told_point([many * number for number in point]), told)

    def test_parameters(self):
        look_at_parameters(self, told_point, [("point", (1, 2, 3), InvalidPoint, NO_POINTS)])
        told_twice(self, told_point, [0, -4, 6])
        told_twice(self, is_point, [0, -4, 6])


class Made(unittest.TestCase):

    def test_some(self):
        spots = Spots(FOUR)
        self.assertEqual(spots.points(), [(0, 0, 1), (1, 0, 1), (0, 1, 1), (1, 1, 1)])
        self.assertEqual(spots.size, 4)
        self.assertEqual(Spots(points=tuple(FOUR)), spots)
        self.assertEqual([Spots([(2, 0, 0)]).points(), Spots([[2, 0, 0]]).size], [[(1, 0, 0)], 1])
        self.assertEqual([Spots(MANY).size, Spots(MANY).points()], [24, MANY])

    def test_no_such_list(self):
        for value in NO_POINT_LISTS:
            refused(self, InvalidPoints, {"position": None}, Spots, value)
            refused(self, InvalidPoints, {"position": None}, Spots, points=value)

    def test_wrong_points(self):
        for value in NO_POINTS:
            refused(self, InvalidPoints, {"position": 0}, Spots, [value])
            refused(self, InvalidPoints, {"position": 2}, Spots, ((1, 0, 0), (0, 1, 0), value, value, (1, 0, 0)))
            refused(self, InvalidPoints, {"position": 23}, Spots, MANY[:23] + [value])

    def test_same_points_twice(self):
        for again in ((0, 0, 1), [0, 0, -1], (0, 0, 10 ** 6)):
            refused(self, InvalidPoints, {"position": 1}, Spots, [(0, 0, 1), again])
            refused(self, InvalidPoints, {"position": 3}, Spots, [(1, 0, 1), (0, 0, 2), (5, 5, 5), again, None])
        refused(self, InvalidPoints, {"position": 1}, Spots, [(1, 0, 1), None, (1, 0, 1)])

    def test_copies(self):
        points = [[1, 2, 3], [4, 5, 6]]
        spots = Spots(points)
        points[0][0] = 9
        points.append([7, 8, 10])
        self.assertEqual(spots.points(), [(1, 2, 3), (4, 5, 6)])
        spots.points().clear()
        self.assertEqual(spots.points(), [(1, 2, 3), (4, 5, 6)])
        self.assertIsNot(spots.points(), spots.points())
        told_twice(self, Spots, [[1, 2, 3], (4, 5, 6)])

    def test_equal(self):
        spots = Spots(FOUR)
        self.assertIs(spots == Spots(spots.points()), True)
        self.assertIs(spots != Spots(spots.points()), False)
        for other in (Spots(FOUR[::-1]), Spots(FOUR[:3]), Spots(FOUR + [(5, 5, 1)]), None, 4, "", spots.points(), Spots,
                      tuple(spots.points()), Form(1, {})):
            self.assertIs(spots == other, False)
            self.assertIs(spots != other, True)

    def test_repr(self):
        self.assertEqual(repr(Spots([[2, 0, 0], (0, -1, -1)])), "Spots([(1, 0, 0), (0, 1, 1)])")
        self.assertEqual(repr(Spots([(2, 0, 0)])), "Spots([(1, 0, 0)])")


class Methods(unittest.TestCase):

    def test_place(self):
        spots = Spots(FOUR)
        for position, point in enumerate(FOUR):
            self.assertEqual(spots.place(point), position)
            self.assertEqual(spots.place(point=[-3 * number for number in point]), position)
        for point in ((1, 0, 0), [2, 1, 1], (1, 2, 1), (0, 1, -1)):
            self.assertIsNone(spots.place(point))
        look_at_parameters(self, spots.place, [("point", (1, 1, 1), InvalidPoint, NO_POINTS)])
        told_twice(self, spots.place, [3, 3, 3])

    def test_without(self):
        spots = Spots(FOUR)
        for position in range(4):
            left = spots.points()[:position] + spots.points()[position + 1:]
            self.assertEqual(spots.without(position), Spots(left))
            self.assertEqual(spots.without(position=position).size, 3)
        self.assertEqual(spots, Spots(FOUR))
        look_at_parameters(self, spots.without, [("position", 1, InvalidPosition, no_positions(4))])
        look_at_parameters(self, Spots(MANY).without, [("position", 23, InvalidPosition, no_positions(24))])
        told_twice(self, spots.without, 2)

    def test_one_left(self):
        spots = Spots([(1, 0, 0)])
        refused(self, OneLeft, {}, spots.without, 0)
        look_at_parameters(self, spots.without, [("position", None, InvalidPosition, no_positions(1))])

    def test_with_point(self):
        spots = Spots(FOUR)
        more = spots.with_point([-2, -4, -2])
        self.assertEqual([more, spots.size], [Spots(FOUR + [(1, 2, 1)]), 4])
        self.assertEqual(spots.with_point(point=(1, 2, 1)), more)
        look_at_parameters(self, spots.with_point, [("point", (7, 1, 1), InvalidPoint, NO_POINTS)])
        for point in ((1, 1, 1), [-2, 0, -2], (0, 0, 9)):
            refused(self, PointThere, {}, spots.with_point, point)
        told_twice(self, spots.with_point, [7, 1, 1])

    def test_too_many(self):
        full = Spots(MANY)
        self.assertEqual(full.without(23).with_point(MANY[23]), full)
        refused(self, TooMany, {"what": "points", "limit": 24}, full.with_point, (1, 0, 0))
        refused(self, PointThere, {}, full.with_point, (2, 2, 2))
        look_at_parameters(self, full.with_point, [("point", None, InvalidPoint, NO_POINTS)])

    def test_same_points(self):
        spots = Spots(FOUR)
        for other in (spots, Spots(FOUR[::-1]), Spots([FOUR[2], FOUR[0], FOUR[3], FOUR[1]])):
            self.assertIs(same_points(spots, other), True)
            self.assertIs(same_points(other=other, spots=spots), True)
        for other in (Spots(FOUR[:3]), Spots(FOUR + [(1, 0, 0)]), Spots(FOUR[:3] + [(1, 0, 0)])):
            self.assertIs(same_points(spots, other), False)
            self.assertIs(same_points(other, spots), False)
        look_at_parameters(self, same_points, [
            ("spots", spots, InvalidSpots, NO_SPOTS), ("other", spots, InvalidSpots, NO_SPOTS)])
        told_twice(self, same_points, spots, Spots(FOUR[::-1]))


if __name__ == "__main__":
    unittest.main()
