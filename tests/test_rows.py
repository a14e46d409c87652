"""Rows, their ends and tops."""

import unittest

from pointrows.errors import InvalidDegree, InvalidSpots, TooMany
from pointrows.points import Spots
from pointrows.rows import count_through, end, row, top
from pointrows.tables import moved
from tests.helpers import (NO_SPOTS, draw_points, draw_table, draws, look_at_parameters, no_degrees, refused,
                           told_twice, triples_by_hand)
from tests.samples import ROWS, SAMPLES, TOPS


class Rows(unittest.TestCase):

    def test_samples(self):
        for name, wanted in ROWS.items():
            spots = SAMPLES[name]
            if wanted is None:
                for function in (row, end):
                    refused(self, TooMany, {"what": "degree", "limit": 8}, function, spots)
            else:
                self.assertEqual(row(spots), wanted, name)
                self.assertEqual(end(spots), len(wanted) - 1, name)
                self.assertIs(type(row(spots=spots)), list)
                self.assertEqual(end(spots=spots), end(spots))

    def test_tops(self):
        for name, wanted in TOPS.items():
            self.assertEqual(top(SAMPLES[name]), wanted, name)
            self.assertEqual(top(spots=SAMPLES[name]), wanted, name)

    def test_lines(self):
        for many in range(1, 10):
            self.assertEqual(row(Spots([(i, 2 * i, 1) for i in range(many)])), [1] * many)
        for many in (10, 11, 24):
            line = Spots([(i, 2 * i, 1) for i in range(many)])
            refused(self, TooMany, {"what": "degree", "limit": 8}, row, line)
            refused(self, TooMany, {"what": "degree", "limit": 8}, end, line)
            self.assertEqual(top(line), 1)

    def test_facts(self):
        source = draws(171)
        for many in (1, 2, 3, 4, 6, 9, 13, 18, 24):
            for size in (2, 3, 999999):
                spots = Spots(draw_points(source, many, size))
                told, first = row(spots), top(spots)
                self.assertEqual(told[:first], list(range(1, first + 1)))
                self.assertEqual(told[first - 1:], sorted(told[first - 1:], reverse=True))
                self.assertEqual(sum(told), many)
                self.assertGreater(min(told), 0)
                self.assertLessEqual(first, 6)
                self.assertLessEqual(end(spots), many - 1)
                self.assertEqual(end(spots), len(told) - 1)

    def test_moved(self):
        for at, name in enumerate(ROWS):
            led = moved(SAMPLES[name], draw_table(draws(180 + at), 4 + at % 2 * 900000))
            self.assertEqual(top(led), TOPS[name], name)
            if ROWS[name] is None:
                refused(self, TooMany, {"what": "degree", "limit": 8}, row, led)
            else:
                self.assertEqual([row(led), end(led)], [ROWS[name], len(ROWS[name]) - 1], name)
            for degree in (1, 3):
                self.assertEqual(count_through(led, degree), count_through(SAMPLES[name], degree))

    def test_count_through(self):
        for name, wanted in ROWS.items():
            if wanted is not None:
                for degree in range(10):
                    many = len(triples_by_hand(degree)) - sum(wanted[:degree + 1])
                    self.assertEqual(count_through(SAMPLES[name], degree), many, (name, degree))
        self.assertEqual(count_through(degree=3, spots=SAMPLES["grid of 3 and 3"]), 2)
        self.assertEqual([count_through(SAMPLES["line of 24"], degree) for degree in (0, 1, 2, 9)], [0, 1, 3, 45])

    def test_parameters(self):
        bent = SAMPLES["bent"]
        for function in (row, end, top):
            look_at_parameters(self, function, [("spots", bent, InvalidSpots, NO_SPOTS)])
            told_twice(self, function, bent)
        look_at_parameters(self, count_through, [
            ("spots", bent, InvalidSpots, NO_SPOTS), ("degree", 2, InvalidDegree, no_degrees(9))])
        told_twice(self, count_through, bent, 2)


if __name__ == "__main__":
    unittest.main()
