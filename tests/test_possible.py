"""Rows that can be, faults, mirrors and boxes."""

import unittest
from itertools import product

from pointrows.errors import BoxTooGreat, InvalidCounts, InvalidMany, InvalidRow
from pointrows.possible import box, box_of, fault, is_mirrored, is_row, mirrored
from tests.helpers import NO_COUNTS, NO_INTEGERS, Odd, look_at_parameters, refused, told_twice

NO_LISTS = [value for value in NO_INTEGERS if not isinstance(value, (list, tuple))]
NO_LISTS += [0, 1, 12, "121", {0: 1, 1: 2}, {1, 2}, range(1, 3)]
NO_COUNT_LISTS = NO_LISTS + [
    [], (), [-1], [1, -1], (1, 2, -(10 ** 29)), [1, 2, True], [True], [1, False], [1, 2, "1"], [1, 2, None], [1, [2]],
    [[1, 2, 1]], [1, 2, Odd()], [Odd()], ((1,),),
]
NO_ROWS = NO_COUNT_LISTS + [
    [0], [2], (2,), [1, 3], [1, 2, 1, 2], [1, 0], [1, 2, 0], [1, 1, 2], [1, 2, 3, 5], [1, 2, 4], [1] * 10, [1, 2, 2, 3],
    [1, 2, 3, 4, 5, 6, 4], [1, 2, 3, 4, 5, 6, 7], [1, 10 ** 29], [1, 2, 3, 4, 5, 5, 5],
]


def rows_by_hand():
    """All rows that can be: of all lists of numbers above 0 that rise by one and then never rise."""
    found = [[]]
    for row in found:
        if len(row) < 9:
            for number in range(1, 7):
                rises = row == list(range(1, number))
                if (rises or row and number <= row[-1]) and sum(row) + number <= 24:
                    found.append(row + [number])
    return found[1:]


ROWS_BY_HAND = rows_by_hand()


class IsRow(unittest.TestCase):

    def test_all_short_lists(self):
        known = {tuple(row) for row in ROWS_BY_HAND}
        for size in range(1, 6):
            for numbers in product(range(6), repeat=size):
                self.assertIs(is_row(list(numbers)), numbers in known)
                self.assertIs(is_row(numbers), numbers in known)

    def test_all_rows(self):
        self.assertEqual(len(ROWS_BY_HAND), 301)
        for row in ROWS_BY_HAND:
            self.assertIs(is_row(row), True)
            self.assertIs(is_row(tuple(row)), True)

    def test_great_ones(self):
        for row, wanted in (([1, 2, 3, 4, 5, 6, 3], True), ([1, 2, 3, 4, 5, 6, 4], False), ([1] * 9, True),
                            ([1] * 10, False), ([1, 2, 3, 3, 3, 3, 3, 3, 3], True), ([1, 2, 3, 4, 4, 4, 4, 1, 1], True),
                            ([1, 2, 3, 4, 4, 4, 4, 2, 1], False), ([1, 2, 3, 4, 5, 5, 4], True),
                            ([1, 2, 3, 4, 5, 5, 5], False), ([1, 2, 3, 4, 5, 6, 7], False)):
            self.assertIs(is_row(row), wanted, row)

    def test_values(self):
        for value in NO_ROWS:
            self.assertIs(is_row(value), False)
        self.assertIs(is_row(value=[1, 2, 1]), True)


class Faults(unittest.TestCase):

    def test_all_short_lists(self):
        for size in range(1, 6):
            for numbers in product(range(6), repeat=size):
                wanted = [place for place in range(size) if list(numbers[:place + 1]) not in ROWS_BY_HAND]
                self.assertEqual(fault(list(numbers)), wanted[0] if wanted else None)
                self.assertEqual(fault(numbers), fault(list(numbers)))

    def test_great_ones(self):
        self.assertEqual([fault([1, 2, 1, 2]), fault([1, 2, 2]), fault([0]), fault((1, 2, 2))], [3, None, 0, None])
        self.assertEqual([fault([1] * 9), fault([1] * 10), fault([1] * 200), fault([1] * 9 + [5])], [None, 9, 9, 9])
        self.assertEqual([fault([1, 2, 3, 4, 5, 6, 3]), fault([1, 2, 3, 4, 5, 6, 4]), fault([1, 2, 3, 4, 5, 6, 7])],
                         [None, 6, 6])
        self.assertEqual([fault([1, 2, 3, 4, 5, 5, 4]), fault([1, 2, 3, 4, 5, 5, 4, 1]), fault([1, 2, 3, 4, 5, 5, 5])],
                         [None, 7, 6])
        self.assertEqual([fault([10 ** 29]), fault([1, 10 ** 29]), fault([1, 2, 0, 0]), fault([2, 1])], [0, 1, 2, 0])

    def test_rows_have_none(self):
        for row in ROWS_BY_HAND:
            self.assertIsNone(fault(row))

    def test_counts(self):
        look_at_parameters(self, fault, [("value", [1, 2], InvalidCounts, NO_COUNT_LISTS)])
        self.assertEqual([fault([1]), fault((1,))], [None, None])
        told_twice(self, fault, [1, 2, 1, 2])


class Mirrors(unittest.TestCase):

    def test_all_rows(self):
        for row in ROWS_BY_HAND:
            self.assertEqual(mirrored(row), row[::-1])
            self.assertEqual(mirrored(tuple(row)), row[::-1])
            self.assertIs(type(mirrored(tuple(row))), list)
            self.assertIs(is_mirrored(row), row == row[::-1])
            self.assertIs(is_mirrored(tuple(row)), row == row[::-1])

    def test_some(self):
        self.assertEqual([mirrored([1, 2, 2]), is_mirrored([1, 2, 1]), mirrored(row=[1])], [[2, 2, 1], True, [1]])
        self.assertIs(is_mirrored(row=[1, 2, 2]), False)


class Boxes(unittest.TestCase):

    def test_all_boxes(self):
        for one in range(1, 13):
            for two in range(1, 25):
                if one * two > 24 or one + two > 10:
                    refused(self, BoxTooGreat, {}, box, one, two)
                else:
                    wanted = [len([i for i in range(one) if 0 <= place - i < two]) for place in range(one + two - 1)]
                    self.assertEqual(box(one, two), wanted)
                    self.assertEqual(box_of(wanted), (min(one, two), max(one, two)))
                    self.assertEqual(box_of(tuple(wanted)), (min(one, two), max(one, two)))

    def test_box_of_all_rows(self):
        boxes = {tuple(box(one, two)): (one, two) for one in range(1, 5) for two in range(one, 10)
                 if one * two <= 24 and one + two <= 10}
        for row in ROWS_BY_HAND:
            self.assertEqual(box_of(row), boxes.get(tuple(row)), row)
            self.assertIs(box_of(row) is None, not is_mirrored(row))

    def test_some(self):
        self.assertEqual([box(3, 2), box_of([1, 2, 3, 2, 1]), box_of([1, 2, 2])], [[1, 2, 2, 1], (3, 3), None])
        self.assertEqual([box(1, 1), box(1, 9), box(9, 1), box(4, 6), box_of([1])],
                         [[1], [1] * 9, [1] * 9, [1, 2, 3, 4, 4, 4, 3, 2, 1], (1, 1)])
        self.assertEqual(box(second=3, first=4), [1, 2, 3, 3, 2, 1])

    def test_too_great(self):
        for one, two in ((1, 10), (10, 1), (5, 5), (3, 8), (2, 9), (10 ** 29, 10 ** 29), (25, 1)):
            refused(self, BoxTooGreat, {}, box, one, two)


class Parameters(unittest.TestCase):

    def test_rows(self):
        for function in (mirrored, is_mirrored, box_of):
            look_at_parameters(self, function, [("row", [1, 2, 1], InvalidRow, NO_ROWS)])
            told_twice(self, function, [1, 2, 1])
            told_twice(self, function, (1, 2, 1))
        told_twice(self, is_row, [1, 2, 1])

    def test_sides(self):
        look_at_parameters(self, box, [("first", 2, InvalidMany, NO_COUNTS + [0]),
                                       ("second", 3, InvalidMany, NO_COUNTS + [0])])
        refused(self, InvalidMany, {"value": 0}, box, 100, 0)
        told_twice(self, box, 2, 3)


if __name__ == "__main__":
    unittest.main()
