"""Rows that stand still, and the rows on and off the form that is hidden there."""

import unittest

from pointrows.errors import InvalidPlace, InvalidRow, InvalidSpots, NotStill, TooMany
from pointrows.rows import row
from pointrows.stairs import stair
from pointrows.still import row_off, row_on, still_places
from pointrows.tables import moved
from tests.helpers import NO_COUNTS, NO_SPOTS, draw_table, draws, look_at_parameters, refused, told_twice
from tests.samples import ROWS, SAMPLES
from tests.test_possible import NO_ROWS, ROWS_BY_HAND

TOO_LONG = ("line of ten", "line of 24", "conic of 18", "conic of 24")


def places_by_hand(told):
    """The places, not below the top, at which the row and the next number are alike."""
    top = max(told)
    return [place for place in range(len(told) - 1) if place >= top and told[place] == told[place + 1]]


class Places(unittest.TestCase):

    def test_samples(self):
        for name, told in ROWS.items():
            if told is not None:
                self.assertEqual(still_places(SAMPLES[name]), places_by_hand(told), name)

    def test_some(self):
        self.assertEqual(still_places(SAMPLES["line of five"]), [1, 2, 3])
        self.assertEqual(still_places(SAMPLES["conic of 17"]), [2, 3, 4, 5, 6, 7])
        self.assertEqual([still_places(SAMPLES[name]) for name in ("one", "two", "bent", "six", "conic of six")],
                         [[], [], [], [], []])
        self.assertEqual([still_places(stair([1, 2, 2])), still_places(stair([1, 2, 2, 2]))], [[], [2]])
        self.assertEqual(still_places(spots=stair([1, 2, 3, 3, 1, 1, 1])), [4, 5])

    def test_rows_that_can_be(self):
        for at, told in enumerate(ROWS_BY_HAND):
            if at % 4 == 0 or len(told) > 7:
                self.assertEqual(still_places(stair(told)), places_by_hand(told), told)

    def test_moved(self):
        for at, told in enumerate(ROWS_BY_HAND[::23]):
            led = moved(stair(told), draw_table(draws(700 + at), 9 + at % 2 * 900000))
            self.assertEqual(still_places(led), places_by_hand(told), told)

    def test_too_many(self):
        for name in TOO_LONG:
            refused(self, TooMany, {"what": "degree", "limit": 8}, still_places, SAMPLES[name])


class RowsOnAndOff(unittest.TestCase):

    def test_all_rows(self):
        for told in ROWS_BY_HAND:
            places = places_by_hand(told)
            for place in range(len(told) + 2):
                if place not in places:
                    for function in (row_on, row_off):
                        refused(self, NotStill, {}, function, told, place)
                        refused(self, NotStill, {}, function, tuple(told), place)
                    continue
                many = told[place]
                on, off = row_on(told, place), row_off(told, place)
                self.assertEqual([type(on), type(off)], [list, list])
                wanted = [min(many, number) if j <= place + 1 else number for j, number in enumerate(told)]
                self.assertEqual(on, wanted)
                wanted = [told[j + many] - many for j in range(len(told)) if j + many < place]
                while wanted and wanted[-1] == 0:
                    wanted.pop()
                self.assertEqual(off, wanted)
                self.assertEqual(sum(on) + sum(off), sum(told))
                self.assertEqual([row_on(tuple(told), place), row_off(tuple(told), place)], [on, off])

    def test_some(self):
        self.assertEqual([row_on([1, 2, 1, 1], 2), row_off([1, 2, 1, 1], 2)], [[1, 1, 1, 1], [1]])
        self.assertEqual([row_on([1, 2, 3, 3, 1, 1, 1], 4), row_off([1, 2, 3, 3, 1, 1, 1], 4)], [[1] * 7, [1, 2, 2]])
        self.assertEqual([row_on([1, 2, 2, 2], 2), row_off([1, 2, 2, 2], 2)], [[1, 2, 2, 2], []])
        self.assertEqual([row_on([1, 1, 1], 1), row_off([1, 1, 1], 1)], [[1, 1, 1], []])
        self.assertEqual([row_on(place=3, row=[1, 2, 3, 2, 2, 1]), row_off(place=3, row=[1, 2, 3, 2, 2, 1])],
                         [[1, 2, 2, 2, 2, 1], [1]])
        for place in (0, 1, 3, 9, 10 ** 29):
            refused(self, NotStill, {}, row_on, [1, 2, 2, 2], place)


class Parameters(unittest.TestCase):

    def test_all(self):
        look_at_parameters(self, still_places, [("spots", SAMPLES["bent"], InvalidSpots, NO_SPOTS)])
        told_twice(self, still_places, SAMPLES["line of five"])
        for function in (row_on, row_off):
            look_at_parameters(self, function, [
                ("row", [1, 2, 1, 1], InvalidRow, NO_ROWS), ("place", 2, InvalidPlace, NO_COUNTS)])
            told_twice(self, function, [1, 2, 1, 1], 2)


if __name__ == "__main__":
    unittest.main()
