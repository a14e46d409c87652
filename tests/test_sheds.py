"""Rows that are left when a point is taken away; early and late points."""

import unittest

from pointrows.errors import InvalidPosition, InvalidSpots, OneLeft, TooMany
from pointrows.forms import Form, letter_forms
from pointrows.parting import part_degrees, parting_form
from pointrows.points import Spots
from pointrows.rows import end, row
from pointrows.sheds import all_late, early, is_early, late_rows, row_without
from pointrows.tables import moved
from tests.helpers import (NO_SPOTS, Odd, draw_points, draw_table, draws, look_at_parameters, no_positions, refused,
                           told_twice, worth_by_hand)
from tests.samples import ROWS, SAMPLES

X, Y, Z = letter_forms()
BENT = SAMPLES["bent"]
ONE = SAMPLES["one"]
TOO_LONG = ("line of ten", "line of 24", "conic of 18", "conic of 24")
LATE = ("one", "two", "six", "line of five", "line of nine", "conic of six", "conic of 17", "grid of 3 and 3",
        "grid of 2 and 5", "grid of 4 and 6", "eight of a grid", "corners")
TOO_MANY = {"what": "degree", "limit": 8}


class RowsWithout(unittest.TestCase):

    def test_samples(self):
        for name, wanted in ROWS.items():
            spots = SAMPLES[name]
            if wanted is None or spots.size == 1:
                continue
            left = [row(spots.without(position)) for position in range(spots.size)]
            self.assertEqual([row_without(spots, position) for position in range(spots.size)], left, name)
            self.assertEqual(late_rows(spots), sorted(one for at, one in enumerate(left) if one not in left[:at]), name)

    def test_some(self):
        self.assertEqual([row_without(BENT, 3), row_without(BENT, 0), late_rows(BENT)],
                         [[1, 1, 1], [1, 2], [[1, 1, 1], [1, 2]]])
        self.assertEqual(row_without(SAMPLES["two"], 1), [1])
        self.assertEqual(late_rows(SAMPLES["grid of 3 and 3"]), [[1, 2, 3, 2]])
        self.assertEqual(row_without(position=9, spots=SAMPLES["nine of a line, one beside"]), [1] * 9)
        self.assertEqual(late_rows(spots=SAMPLES["line of nine"]), [[1] * 8])

    def test_one_left(self):
        refused(self, OneLeft, {}, row_without, ONE, 0)
        refused(self, OneLeft, {}, late_rows, ONE)
        refused(self, InvalidPosition, {"value": 1}, row_without, ONE, 1)

    def test_too_many(self):
        for name in TOO_LONG:
            spots = SAMPLES[name]
            for position in (0, spots.size - 1):
                refused(self, TooMany, TOO_MANY, row_without, spots, position)
            refused(self, InvalidPosition, {"value": spots.size}, row_without, spots, spots.size)
            for function in (late_rows, all_late, early):
                refused(self, TooMany, TOO_MANY, function, spots)
            for value in (None, (0, Y), early(BENT)):
                refused(self, TooMany, TOO_MANY, is_early, spots, value)


class EarlyAndLate(unittest.TestCase):

    def look(self, spots):
        """What early tells, looked at by hand."""
        told = early(spots)
        self.assertIs(all_late(spots), told is None)
        self.assertIs(all_late(spots), part_degrees(spots) == [end(spots)] * spots.size)
        if told is not None:
            self.assertIs(type(told), tuple)
            position, form = told
            self.assertLess(form.degree, end(spots))
            worths = [worth_by_hand(form, point) for point in spots.points()]
            self.assertEqual([at for at, worth in enumerate(worths) if worth != 0], [position])
            self.assertLess(max(abs(number) for number in form.terms().values()), 10 ** 600)
            self.assertIs(is_early(spots, told), True)
        return told

    def test_samples(self):
        for name, wanted in ROWS.items():
            if wanted is not None:
                self.look(SAMPLES[name])
        for name in LATE:
            self.assertIsNone(early(SAMPLES[name]), name)

    def test_some(self):
        self.assertEqual(self.look(BENT), (3, Y))
        self.assertIs(all_late(ONE), True)
        self.assertEqual(self.look(SAMPLES["nine of a line, one beside"])[0], 9)
        self.assertIs(all_late(spots=BENT), False)
        self.assertEqual(early(spots=BENT)[0], 3)

    def test_drawn_ones(self):
        source = draws(661)
        for many in (4, 7, 12, 20):
            for size in (1, 2, 9):
                if many < 2 ** (3 * size):
                    self.look(Spots(draw_points(source, min(many, 12 if size == 1 else 24), size)))

    def test_moved(self):
        source = draws(662)
        for name in ("bent", "nine of a line, one beside", "two lines", "drawn 15", "grid of 2 and 5"):
            led = moved(SAMPLES[name], draw_table(source, 999999))
            self.look(led)
            self.assertIs(all_late(led), all_late(SAMPLES[name]))

    def test_long_numbers(self):
        source = draws(663)
        spots = Spots([(i, 3 * i, 7) for i in range(9)] + draw_points(source, 9, 999999))
        for _ in range(3):
            spots = moved(spots, draw_table(source, 999999))
        self.assertIsNotNone(self.look(spots))

    def test_a_point_with_a_short_form_is_told(self):
        # The only form below the end that parts the first point has numbers of 700 digits, those of others have 350.
        source = draws(664)
        far = [tuple(source.randrange(10 ** 350) for _ in range(3)) for _ in range(2)]
        spots = Spots([(0, 1, 1)] + [(i, 0, 1) for i in range(4)] + far)
        self.assertEqual([row(spots), part_degrees(spots)], [[1, 2, 3, 1], [2, 3, 3, 3, 3, 2, 2]])
        long = max(abs(number) for number in parting_form(spots, 0, 2).terms().values())
        self.assertGreater(long, 10 ** 600)
        self.assertIn(self.look(spots)[0], (5, 6))

    def test_the_shortest_form_is_told_if_all_are_long(self):
        source = draws(665)
        far = [tuple(source.randrange(10 ** 700) for _ in range(3)) for _ in range(2)]
        spots = Spots([(0, 1, 1)] + [(i, 0, 1) for i in range(4)] + far)
        position, form = early(spots)
        self.assertIn(position, (5, 6))
        self.assertIs(is_early(spots, (position, form)), True)

    def test_is_early(self):
        self.assertIs(is_early(BENT, (3, Y)), True)
        self.assertIs(is_early(value=(3, Y.times(-4)), spots=BENT), True)
        beside = SAMPLES["nine of a line, one beside"]
        for degree in range(1, 10):
            self.assertIs(is_early(beside, (9, Form(degree, {(0, degree, 0): 1}))), degree < 8)

    def test_no_papers(self):
        for value in ((0, Y), (3, Y * Y), (3, X), [3, Y], (3, Y, 0), (3,), (), (Y, 3), (3, None), (None, Y), (True, Y),
                      ("3", Y), (4, Y), (-1, Y), (10 ** 29, Y), (3, Y.terms()), (3, (Y,)), {3: Y}, Y, 3, None, "3y",
                      (3, Form(1, {})), (3, Form(0, {(0, 0, 0): 1})), ((3, Y),), [(3, Y)], (Odd(), Y), (3, Odd()),
                      (3, BENT), ([3], Y), Odd()):
            self.assertIs(is_early(BENT, value), False)
        self.assertIs(is_early(ONE, (0, Form(0, {(0, 0, 0): 1}))), False)
        three = Spots([(0, 0, 1), (1, 0, 1), (0, 1, 1)])
        self.assertIs(is_early(three, (False, X + Y - Z)), False)
        self.assertIs(is_early(three, (0, X + Y - Z)), False)
        beside = Spots([(0, 1, 1), (0, 0, 1), (1, 0, 1), (2, 0, 1)])
        self.assertIs(is_early(beside, (0, Y)), True)
        self.assertIs(is_early(beside, (False, Y)), False)


class Parameters(unittest.TestCase):

    def test_all(self):
        for function in (all_late, early, late_rows):
            look_at_parameters(self, function, [("spots", BENT, InvalidSpots, NO_SPOTS)])
            told_twice(self, function, BENT)
        look_at_parameters(self, row_without, [
            ("spots", BENT, InvalidSpots, NO_SPOTS), ("position", 2, InvalidPosition, no_positions(4))])
        told_twice(self, row_without, BENT, 2)
        for value in ((3, Y), None):
            look_at_parameters(self, is_early, [("spots", BENT, InvalidSpots, NO_SPOTS), ("value", value, None, [])])
            told_twice(self, is_early, BENT, value)


if __name__ == "__main__":
    unittest.main()
