"""All rows that can be with a sum."""

import unittest
from itertools import combinations

from pointrows.counted import partings, row_count, rows_of
from pointrows.errors import InvalidMany
from tests.helpers import NO_COUNTS, look_at_parameters, refused, told_twice
from tests.test_possible import ROWS_BY_HAND

NO_MANY = NO_COUNTS + [0, 25, 26, 10 ** 29]


class Counted(unittest.TestCase):

    def test_all_sums(self):
        for many in range(1, 25):
            told = rows_of(many)
            self.assertIs(type(told), list)
            self.assertEqual(told, sorted(row for row in ROWS_BY_HAND if sum(row) == many))
            ways = [parts for size in range(1, 10) for parts in combinations(range(1, 10), size) if sum(parts) == many]
            self.assertEqual([row_count(many), partings(many)], [len(told), len(ways)])
            self.assertEqual(len(told), len(ways))

    def test_some(self):
        self.assertEqual(rows_of(5), [[1, 1, 1, 1, 1], [1, 2, 1, 1], [1, 2, 2]])
        self.assertEqual([rows_of(1), rows_of(2), row_count(10), partings(10)], [[[1]], [[1, 1]], 9, 9])
        self.assertEqual(sum(row_count(many) for many in range(1, 25)), 301)
        self.assertEqual([rows_of(many=3), row_count(many=3), partings(many=3)], [[[1, 1, 1], [1, 2]], 2, 2])

    def test_parameters(self):
        for function in (rows_of, row_count, partings):
            look_at_parameters(self, function, [("many", 7, InvalidMany, NO_MANY)])
            told_twice(self, function, 7)
            refused(self, InvalidMany, {"value": 25}, function, many=25)

    def test_returned_lists_are_new(self):
        rows_of(5)[0].append(7)
        self.assertEqual(rows_of(5)[0], [1, 1, 1, 1, 1])


if __name__ == "__main__":
    unittest.main()
