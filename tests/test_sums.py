"""Independent points, and sums by which points' conditions come to nothing."""

import unittest
from itertools import combinations

from pointrows.conditions import conditions
from pointrows.errors import InvalidDegree, InvalidPosition, InvalidSpots
from pointrows.forms import Form
from pointrows.points import Spots
from pointrows.sums import comes_of, independent, is_independent, is_sum, is_sums, sums
from pointrows.tables import moved
from tests.helpers import (NO_INTEGERS, NO_SPOTS, draw_points, draw_table, draws, look_at_parameters, no_degrees,
                           no_positions, rank_by_hand, told_twice, triples_by_hand)
from tests.samples import SAMPLES

GRID = SAMPLES["grid of 3 and 3"]
BENT = SAMPLES["bent"]
GRID_SUM = [1, -2, 1, -2, 4, -2, 1, -2, 1]


def conditions_by_hand(spots, degree):
    """The worths of the products of letters at the points, as lists of numbers."""
    return [[x ** i * y ** j * z ** k for i, j, k in triples_by_hand(degree)] for x, y, z in spots.points()]


def comes_to_nothing(rows, numbers):
    """Whether the rows, times the numbers and added up, are all 0."""
    return all(sum(number * one for number, one in zip(numbers, column)) == 0 for column in zip(*rows))


class Independent(unittest.TestCase):

    def told(self, spots, degree):
        """What independent tells, looked at by hand."""
        positions = independent(spots, degree)
        rows = conditions_by_hand(spots, degree)
        self.assertIs(type(positions), list)
        self.assertEqual(positions, sorted(set(positions)))
        self.assertEqual(len(positions), conditions(spots, degree))
        self.assertEqual(rank_by_hand([rows[position] for position in positions]), len(positions))
        self.assertIs(is_independent(spots, degree, positions), True)
        self.assertIs(is_independent(value=tuple(positions), spots=spots, degree=degree), True)
        return positions

    def test_samples(self):
        for spots in SAMPLES.values():
            for degree in (0, 1, 2, 3, 6, 9):
                self.told(spots, degree)

    def test_some(self):
        self.assertEqual(self.told(BENT, 2), [0, 1, 2, 3])
        self.assertEqual(len(self.told(GRID, 3)), 8)
        self.assertEqual(len(self.told(SAMPLES["line of 24"], 9)), 10)
        self.assertEqual(len(self.told(BENT, 0)), 1)

    def test_all_other_lists(self):
        for spots in (BENT, SAMPLES["six"], SAMPLES["corners"], SAMPLES["line of five"]):
            for degree in (0, 1, 2):
                rows = conditions_by_hand(spots, degree)
                many = rank_by_hand(rows)
                for size in range(spots.size + 1):
                    for chosen in combinations(range(spots.size), size):
                        wanted = size == many and rank_by_hand([rows[at] for at in chosen]) == many
                        self.assertIs(is_independent(spots, degree, list(chosen)), wanted)
                        self.assertIs(is_independent(spots, degree, chosen), wanted)

    def test_not_such_lists(self):
        for value in ([0, 1, 2], [0, 3], [3, 1, 0], [0, 3, 1], [0, 0, 3], [0, 1, 1, 3], [0, 1, 2, 3], [0, 1, 4],
                      [-1, 0, 3], [0, True, 3], [False, 1, 3], [0, 1, "3"], [0, 1, None], [0, 1, [3]], [[0, 1, 3]],
                      [0, 1, 10 ** 29], {0: 0, 1: 1, 3: 3}, {0, 1, 3}, "013", range(3), BENT, 3, 0, -1,
                      Form(1, {(1, 0, 0): 1})) + tuple(NO_INTEGERS):
            self.assertIs(is_independent(BENT, 1, value), False)
        self.assertIs(is_independent(BENT, 1, [0, 1, 3]), True)
        self.assertIs(is_independent(BENT, 1, [1, 2, 3]), True)


class Sums(unittest.TestCase):

    def told(self, spots, degree):
        """What sums tells, looked at by hand."""
        told = sums(spots, degree)
        rows = conditions_by_hand(spots, degree)
        self.assertIs(type(told), list)
        self.assertEqual(len(told), spots.size - conditions(spots, degree))
        for numbers in told:
            self.assertIs(type(numbers), list)
            self.assertEqual(len(numbers), spots.size)
            self.assertTrue(any(numbers))
            self.assertTrue(comes_to_nothing(rows, numbers))
            self.assertLess(max(abs(number) for number in numbers), 10 ** 600)
            self.assertIs(is_sum(spots, degree, numbers), True)
            self.assertIs(is_sum(value=tuple(numbers), degree=degree, spots=spots), True)
        self.assertEqual(rank_by_hand(told), len(told))
        self.assertIs(is_sums(spots, degree, told), True)
        self.assertIs(is_sums(value=tuple(map(tuple, told)), spots=spots, degree=degree), True)
        return told

    def test_samples(self):
        for spots in SAMPLES.values():
            for degree in (0, 1, 2, 4, 8, 9):
                self.told(spots, degree)

    def test_some(self):
        self.assertIn(self.told(GRID, 3), ([GRID_SUM], [[-number for number in GRID_SUM]]))
        self.assertEqual(len(self.told(GRID, 2)), 3)
        self.assertEqual([self.told(GRID, 4), self.told(GRID, 9)], [[], []])
        self.assertIn(self.told(BENT, 1), ([[1, -2, 1, 0]], [[-1, 2, -1, 0]]))
        self.assertEqual(len(self.told(SAMPLES["line of 24"], 9)), 14)

    def test_long_numbers(self):
        source = draws(631)
        points = draw_points(source, 24, 999999)
        spots = moved(Spots(points), draw_table(source, 999999))
        for degree in (1, 3, 5):
            self.told(spots, degree)
        grid = moved(SAMPLES["grid of 4 and 6"], draw_table(source, 999999))
        for degree in (2, 5, 6, 7, 8):
            self.told(grid, degree)

    def test_shorter_ones_are_found(self):
        # Of ten points of a conic with few beside it a sum of degree 3 has only those of the conic.
        source = draws(632)
        spots = Spots([(1, i, i * i) for i in range(10)] + [(5, 1, 0), (1, 0, 7)])
        for _ in range(3):
            spots = moved(spots, draw_table(source, 999999))
        for degree in (1, 2, 3):
            self.told(spots, degree)

    def test_the_told_points_count(self):
        twice = Spots([(0, 0, 2), [-3, 0, -3], (4, 0, 2)])
        self.assertIs(is_sum(twice, 1, [1, -2, 1]), True)
        self.assertIs(is_sum(twice, 1, [1, 2, 1]), False)

    def test_is_sum(self):
        for numbers in (GRID_SUM, [-7 * number for number in GRID_SUM], tuple(GRID_SUM)):
            self.assertIs(is_sum(GRID, 3, numbers), True)
            self.assertIs(is_sum(GRID, 2, numbers), True)
            self.assertIs(is_sum(GRID, 4, numbers), False)
        self.assertIs(is_sum(GRID, 2, [1, -2, 1, -2, 4, -2, 1, -2, 2]), False)

    def test_is_no_sum(self):
        for value in ([0] * 9, (0,) * 9, GRID_SUM[:-1], GRID_SUM + [0], [1] + GRID_SUM[1:-1] + [True], [True] * 9,
                      [False] * 9, [True] + GRID_SUM[1:], GRID_SUM[:-1] + ["1"], GRID_SUM[:-1] + [None],
                      GRID_SUM[:-1] + [[1]], [GRID_SUM], "123456789", dict(enumerate(GRID_SUM)), GRID, 5,
                      {1, 2, 3, 4, 5, 6, 7, 8, 9}, [2] + GRID_SUM[1:], list(range(9))) + tuple(NO_INTEGERS):
            self.assertIs(is_sum(GRID, 3, value), False)

    def test_is_sums(self):
        good = sums(GRID, 2)
        self.assertIs(is_sums(GRID, 2, good[::-1]), True)
        self.assertIs(is_sums(GRID, 2, [good[0], tuple(good[1]), [a + b for a, b in zip(good[1], good[2])]]), True)
        self.assertIs(is_sums(GRID, 4, []), True)
        self.assertIs(is_sums(GRID, 4, ()), True)
        for value in (good[:2], good + [good[0]], [good[0], good[1], good[1]], [good[0], good[1], [0] * 9],
                      [good[0], good[1], [a - b for a, b in zip(good[0], good[1])]], [good[0], good[1], [1] * 9],
                      [good[0], good[1], None], [good[0], good[1], good[2][:-1]], [good[0], good[1], 5], good[0], [],
                      dict(enumerate(good)), [GRID, GRID, GRID], "123", [good[0], good[1], [True] + [0] * 8],
                      [good]) + tuple(NO_INTEGERS):
            self.assertIs(is_sums(GRID, 2, value), False)
        for value in (None, 0, False, "", {}, [[]], [[0] * 9], [GRID_SUM]):
            self.assertIs(is_sums(GRID, 4, value), False)


class ComesOf(unittest.TestCase):

    def look(self, spots, degrees):
        """None exactly where the others have one condition less, else a sum with a number at the position."""
        for degree in degrees:
            rows = conditions_by_hand(spots, degree)
            whole = rank_by_hand(rows)
            for position in range(spots.size):
                parted = rank_by_hand(rows[:position] + rows[position + 1:]) < whole
                told = comes_of(spots, position, degree)
                self.assertEqual(told is None, parted)
                if not parted:
                    self.assertIs(type(told), list)
                    self.assertNotEqual(told[position], 0)
                    self.assertTrue(comes_to_nothing(rows, told))
                    self.assertIs(is_sum(spots, degree, told), True)

    def test_samples(self):
        for name in ("one", "two", "bent", "corners", "six", "line of five", "conic of six", "eight of a grid",
                     "drawn 7", "long beside small", "grid of 3 and 3"):
            self.look(SAMPLES[name], (0, 1, 2, 3, 4))
        self.look(SAMPLES["nine of a line, one beside"], (0, 1, 7, 8, 9))
        self.look(SAMPLES["line of ten"], (8, 9))

    def test_long_numbers(self):
        source = draws(633)
        spots = moved(SAMPLES["grid of 3 and 3"], draw_table(source, 999999))
        self.look(spots, (1, 2, 3))
        spots = moved(Spots(draw_points(source, 24, 999999)), draw_table(source, 999999))
        for degree, position in ((1, 3), (4, 23), (5, 0)):
            told = comes_of(spots, position, degree)
            self.assertIs(is_sum(spots, degree, told), True)
            self.assertNotEqual(told[position], 0)
            self.assertLess(max(abs(number) for number in told), 10 ** 600)
        self.assertIsNone(comes_of(spots, 7, 6))

    def test_some(self):
        self.assertIsNone(comes_of(BENT, 3, 1))
        self.assertIn(comes_of(BENT, 1, 1), ([1, -2, 1, 0], [-1, 2, -1, 0]))
        self.assertIsNone(comes_of(SAMPLES["one"], 0, 0))
        self.assertIsNone(comes_of(degree=4, position=0, spots=GRID))


class Parameters(unittest.TestCase):

    def test_spots_and_degrees(self):
        for function in (independent, sums):
            look_at_parameters(self, function, [
                ("spots", BENT, InvalidSpots, NO_SPOTS), ("degree", 2, InvalidDegree, no_degrees(9))])
            told_twice(self, function, BENT, 1)
        for function in (is_independent, is_sums, is_sum):
            for value in ([], None):
                look_at_parameters(self, function, [
                    ("spots", BENT, InvalidSpots, NO_SPOTS), ("degree", 2, InvalidDegree, no_degrees(9)),
                    ("value", value, None, [])])
            told_twice(self, function, BENT, 1, [1, -2, 1, 0])

    def test_positions(self):
        look_at_parameters(self, comes_of, [
            ("spots", BENT, InvalidSpots, NO_SPOTS), ("position", 3, InvalidPosition, no_positions(4)),
            ("degree", 1, InvalidDegree, no_degrees(9))])
        told_twice(self, comes_of, BENT, 0, 1)


if __name__ == "__main__":
    unittest.main()
