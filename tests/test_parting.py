"""Parted points, part degrees and parting forms."""

import unittest

from pointrows.errors import InvalidDegree, InvalidPosition, InvalidSpots, TooMany
from pointrows.forms import Form, letter_forms
from pointrows.parting import is_parting, part_degree, part_degrees, parting_form
from pointrows.points import Spots
from pointrows.rows import end, row
from pointrows.sums import comes_of, is_sum
from pointrows.tables import form_moved, moved
from tests.helpers import (NO_FORMS, NO_SPOTS, draw_points, draw_table, draws, look_at_parameters, no_degrees,
                           no_positions, rank_by_hand, refused, told_twice, triples_by_hand, worth_by_hand)
from tests.samples import ROWS, SAMPLES

X, Y, Z = letter_forms()
BENT = SAMPLES["bent"]
TOO_LONG = ("line of ten", "line of 24", "conic of 18", "conic of 24")


def conditions_by_hand(points, degree):
    """How many conditions the points make that are independent."""
    return rank_by_hand([[x ** i * y ** j * z ** k for i, j, k in triples_by_hand(degree)] for x, y, z in points])


def degrees_by_hand(spots):
    """The least degrees at which the others have one condition less, up to 8."""
    points, found = spots.points(), []
    for position in range(spots.size):
        others = points[:position] + points[position + 1:]
        degree = 0
        while conditions_by_hand(others, degree) == conditions_by_hand(points, degree):
            degree += 1
        found.append(degree)
    return found


class PartDegrees(unittest.TestCase):

    def test_samples(self):
        for name in ("one", "two", "bent", "corners", "six", "line of five", "line of nine", "conic of six",
                     "nine of a line, one beside", "grid of 3 and 3", "eight of a grid", "drawn 7", "drawn near",
                     "long beside small"):
            wanted = degrees_by_hand(SAMPLES[name])
            self.assertEqual(part_degrees(SAMPLES[name]), wanted, name)
            self.assertEqual([part_degree(SAMPLES[name], at) for at in range(len(wanted))], wanted, name)

    def test_some(self):
        self.assertEqual(part_degrees(BENT), [2, 2, 2, 1])
        self.assertEqual(part_degrees(SAMPLES["six"]), [2] * 6)
        self.assertEqual(part_degrees(SAMPLES["one"]), [0])
        self.assertEqual(part_degrees(SAMPLES["line of nine"]), [8] * 9)
        self.assertEqual(part_degrees(SAMPLES["nine of a line, one beside"]), [8] * 9 + [1])
        self.assertEqual(part_degrees(SAMPLES["grid of 3 and 3"]), [4] * 9)
        self.assertEqual(part_degrees(SAMPLES["grid of 4 and 6"]), [8] * 24)
        self.assertEqual(part_degrees(SAMPLES["eight of a grid"]), [3] * 8)
        self.assertEqual(part_degrees(SAMPLES["conic of 17"]), [8] * 17)
        self.assertEqual(part_degree(position=3, spots=BENT), 1)

    def test_facts(self):
        source = draws(641)
        for many in (1, 2, 3, 5, 8, 12, 18, 24):
            for size in (2, 3, 40):
                spots = Spots(draw_points(source, many, size))
                told, last = part_degrees(spots), end(spots)
                self.assertLessEqual(max(told), last)
                self.assertGreaterEqual(told.count(last), last + 1)
                self.assertTrue(all(row(spots)[degree] > 0 for degree in told))

    def test_moved(self):
        for at, name in enumerate(ROWS):
            if name not in TOO_LONG:
                led = moved(SAMPLES[name], draw_table(draws(650 + at), 3 + at % 2 * 900000))
                self.assertEqual(part_degrees(led), part_degrees(SAMPLES[name]), name)

    def test_too_many(self):
        for name in TOO_LONG:
            refused(self, TooMany, {"what": "degree", "limit": 8}, part_degrees, SAMPLES[name])
            refused(self, TooMany, {"what": "degree", "limit": 8}, part_degree, SAMPLES[name], 3)
            size = SAMPLES[name].size
            refused(self, InvalidPosition, {"value": size}, part_degree, SAMPLES[name], size)


class PartingForms(unittest.TestCase):

    def look(self, spots, position, degree):
        """Whether a parting form is told, which is looked at by hand; else there is a sum."""
        form = parting_form(spots, position, degree)
        numbers = comes_of(spots, position, degree)
        if form is None:
            self.assertIs(is_sum(spots, degree, numbers), True)
            self.assertNotEqual(numbers[position], 0)
            return False
        self.assertIsNone(numbers)
        self.assertIsInstance(form, Form)
        self.assertEqual(form.degree, degree)
        worths = [worth_by_hand(form, point) for point in spots.points()]
        self.assertNotEqual(worths[position], 0)
        self.assertFalse(any(worths[:position] + worths[position + 1:]))
        self.assertIs(is_parting(spots, position, form), True)
        self.assertLess(max(abs(number) for number in form.terms().values()), 10 ** 600)
        return True

    def test_from_the_part_degree_on(self):
        for name in ("one", "two", "bent", "corners", "six", "line of five", "eight of a grid", "drawn 7",
                     "long beside small", "nine of a line, one beside"):
            spots = SAMPLES[name]
            told = part_degrees(spots)
            for position in (0, spots.size // 2, spots.size - 1):
                for degree in range(10):
                    self.assertIs(self.look(spots, position, degree), degree >= told[position], (name, degree))

    def test_where_the_row_is_not_told(self):
        for name in TOO_LONG:
            for degree in (0, 8, 9):
                wanted = name in ("line of ten", "conic of 18") and degree == 9
                self.assertIs(self.look(SAMPLES[name], 4, degree), wanted)
        beside = Spots([(i, 0, 1) for i in range(12)] + [(0, 1, 1)])
        self.assertEqual(parting_form(beside, 12, 1), Y)
        self.assertIsNone(parting_form(beside, 0, 9))
        self.assertIs(is_parting(beside, 12, Y * Y), True)

    def test_some(self):
        self.assertIsNone(parting_form(BENT, 0, 1))
        self.assertEqual(parting_form(BENT, 3, 1), Y)
        self.assertEqual(parting_form(SAMPLES["one"], 0, 0), Form(0, {(0, 0, 0): 1}))
        self.assertIsNone(parting_form(SAMPLES["two"], 0, 0))
        self.assertEqual(parting_form(degree=1, position=3, spots=BENT), Y)

    def test_long_numbers(self):
        source = draws(642)
        spots = Spots(draw_points(source, 24, 999999))
        for _ in range(3):
            spots = moved(spots, draw_table(source, 999999))
        for position, degree in ((0, 6), (23, 6), (5, 7)):
            self.assertIs(self.look(spots, position, degree), True)
        self.assertIs(self.look(spots, 5, 5), False)
        grid = moved(SAMPLES["grid of 4 and 6"], draw_table(source, 999999))
        self.assertIs(self.look(grid, 0, 7), False)
        self.assertIs(self.look(grid, 0, 8), True)

    def test_is_parting(self):
        self.assertIs(is_parting(BENT, 3, Y), True)
        self.assertIs(is_parting(BENT, 3, Y.times(-5)), True)
        self.assertIs(is_parting(BENT, 3, Y * Y), True)
        self.assertIs(is_parting(BENT, 0, Y), False)
        self.assertIs(is_parting(BENT, 3, X), False)
        self.assertIs(is_parting(BENT, 0, (X - Z) * (X + Y - Z.times(2))), False)
        self.assertIs(is_parting(BENT, 0, (X + Y - Z) * (X - Z.times(2))), True)
        self.assertIs(is_parting(BENT, 0, (X + Y - Z) * (X - Z)), False)
        for degree in range(13):
            self.assertIs(is_parting(BENT, 3, Form(degree, {(0, degree, 0): 7})), 1 <= degree <= 9)
            self.assertIs(is_parting(SAMPLES["one"], 0, Form(degree, {(0, 0, degree): 1})), degree <= 9)
            self.assertIs(is_parting(BENT, 3, Form(degree, {})), False)
        for value in NO_FORMS + [(3, Y), [Y], Y.terms(), "y", BENT]:
            self.assertIs(is_parting(BENT, 3, value), False)

    def test_moved(self):
        table = draw_table(draws(643), 9)
        self.assertIs(is_parting(moved(BENT, table), 3, form_moved(Y, table)), True)
        self.assertIs(is_parting(moved(BENT, table), 3, Y), False)


class Parameters(unittest.TestCase):

    def test_all(self):
        look_at_parameters(self, part_degrees, [("spots", BENT, InvalidSpots, NO_SPOTS)])
        look_at_parameters(self, part_degree, [
            ("spots", BENT, InvalidSpots, NO_SPOTS), ("position", 2, InvalidPosition, no_positions(4))])
        look_at_parameters(self, parting_form, [
            ("spots", BENT, InvalidSpots, NO_SPOTS), ("position", 2, InvalidPosition, no_positions(4)),
            ("degree", 2, InvalidDegree, no_degrees(9))])
        for value in (Y, None):
            look_at_parameters(self, is_parting, [
                ("spots", BENT, InvalidSpots, NO_SPOTS), ("position", 2, InvalidPosition, no_positions(4)),
                ("value", value, None, [])])

    def test_twice(self):
        told_twice(self, part_degrees, BENT)
        told_twice(self, part_degree, BENT, 2)
        told_twice(self, parting_form, BENT, 2, 2)
        told_twice(self, is_parting, BENT, 3, Y)


if __name__ == "__main__":
    unittest.main()
