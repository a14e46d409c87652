"""Stairs of rows, and lengths."""

import unittest
from itertools import combinations, product

from pointrows.errors import InvalidLengths, InvalidRow
from pointrows.lines import passed
from pointrows.forms import letter_forms
from pointrows.points import Spots
from pointrows.possible import is_row
from pointrows.rows import row, top
from pointrows.stairs import lengths, row_by, stair
from tests.helpers import Odd, look_at_parameters, told_twice
from tests.test_possible import NO_COUNT_LISTS, NO_ROWS, ROWS_BY_HAND

NO_LENGTHS = NO_COUNT_LISTS + [
    [0], [10], [3, 3], [1, 2], [5, 4, 0], [2, 0], [9, 8, 7, 1], [9, 9], [10 ** 29], [3, 2, 2], [6, 5, 4, 3, 2, 1, 0],
    [7, 6, 5, 4, 3], [3, 1, Odd()], [4, 2, True], [4, False],
]


class Stairs(unittest.TestCase):

    def test_all_rows(self):
        _, y, z = letter_forms()
        for at, told in enumerate(ROWS_BY_HAND):
            spots = stair(told)
            wanted = [(i, j) for i in range(9) for j in range(9) if i + j < len(told) and j < told[i + j]]
            wanted = [(i, j, 1) for i, j in sorted(wanted, key=lambda point: (sum(point), point[1]))]
            self.assertEqual(spots.points(), wanted)
            self.assertEqual(stair(tuple(told)), spots)
            self.assertEqual(spots.size, sum(told))
            if at % 3 == 0:
                self.assertEqual(row(spots), told)
                self.assertEqual(top(spots), max(told))
                for j, length in enumerate(lengths(told)):
                    self.assertEqual(len(passed(spots, y - z.times(j))), length)

    def test_some(self):
        self.assertEqual(stair([1, 2, 1]), Spots([(0, 0, 1), (1, 0, 1), (0, 1, 1), (2, 0, 1)]))
        self.assertEqual(stair(row=[1]), Spots([(0, 0, 1)]))

    def test_nothing_is_left_out_below(self):
        for told in ROWS_BY_HAND:
            points = stair(told).points()
            for i, j, _ in points:
                self.assertTrue(i == 0 or (i - 1, j, 1) in points)
                self.assertTrue(j == 0 or (i, j - 1, 1) in points)


class Lengths(unittest.TestCase):

    def test_there_and_back(self):
        for told in ROWS_BY_HAND:
            steps = lengths(told)
            self.assertIs(type(steps), list)
            self.assertEqual(steps, [sum(number > j for number in told) for j in range(max(told))])
            self.assertEqual(steps, sorted(set(steps), reverse=True))
            self.assertEqual(sum(steps), sum(told))
            self.assertEqual(row_by(steps), told)
            self.assertEqual(row_by(tuple(steps)), told)
            self.assertEqual(lengths(tuple(told)), steps)

    def test_all_lists(self):
        many = 0
        for size in range(1, 10):
            for steps in combinations(range(9, 0, -1), size):
                if sum(steps) <= 24:
                    many += 1
                    told = row_by(list(steps))
                    self.assertIs(type(told), list)
                    self.assertIs(is_row(told), True)
                    self.assertEqual(lengths(told), list(steps))
                else:
                    with self.assertRaises(InvalidLengths):
                        row_by(steps)
        self.assertEqual(many, len(ROWS_BY_HAND))

    def test_other_lists(self):
        for size in (1, 2, 3):
            for steps in product(range(-1, 11), repeat=size):
                good = steps[0] <= 9 and steps[-1] > 0 and sorted(set(steps), reverse=True) == list(steps)
                if not good or sum(steps) > 24:
                    with self.assertRaises(InvalidLengths):
                        row_by(list(steps))
                else:
                    self.assertEqual(lengths(row_by(steps)), list(steps))

    def test_some(self):
        self.assertEqual([lengths([1, 2, 3, 2, 1]), row_by([4, 1]), row_by([1]), lengths([1] * 9)],
                         [[5, 3, 1], [1, 2, 1, 1], [1], [9]])
        self.assertEqual([row_by(lengths=[9, 8, 7]), lengths(row=[1, 2, 2])], [[1, 2, 3, 3, 3, 3, 3, 3, 3], [3, 2]])


class Parameters(unittest.TestCase):

    def test_all(self):
        for function in (stair, lengths):
            look_at_parameters(self, function, [("row", [1, 2, 1], InvalidRow, NO_ROWS)])
            told_twice(self, function, [1, 2, 1])
        look_at_parameters(self, row_by, [("lengths", [4, 1], InvalidLengths, NO_LENGTHS)])
        told_twice(self, row_by, [4, 1])


if __name__ == "__main__":
    unittest.main()
