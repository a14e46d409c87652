"""Pairs of some points, and papers that there is none."""

import unittest

from pointrows.errors import InvalidSpots, TooMany
from pointrows.forms import Form, letter_forms
from pointrows.pairs import box_degrees, is_pair
from pointrows.parting import part_degrees, parting_form
from pointrows.points import Spots
from pointrows.products import quotient
from pointrows.rows import end, row
from pointrows.sheds import early
from pointrows.stairs import stair
from pointrows.tables import form_moved, moved
from pointrows.verdicts import is_all, is_why_not, pair, why_not
from tests.helpers import (NO_FORMS, NO_SPOTS, Odd, draw_points, draw_table, draws, look_at_parameters, refused,
                           told_twice, worth_by_hand)
from tests.samples import ROWS, SAMPLES
from tests.test_possible import ROWS_BY_HAND

X, Y, Z = letter_forms()
ONE = Form(0, {(0, 0, 0): 1})
SQUARE = Spots([(0, 0, 1), (0, 1, 1), (1, 0, 1), (1, 1, 1)])
BARS = Spots([(0, 0, 1), (1, 0, 1), (2, 0, 1), (0, 1, 1)])
FIVE = Spots([(1, 0, 0), (1, 1, 1), (1, 2, 4), (1, 3, 9), (1, -1, 1)])
TOO_LONG = ("line of ten", "line of 24", "conic of 18", "conic of 24")
TOO_MANY = {"what": "degree", "limit": 8}
MOST = 10 ** 600


def grid(one, two):
    """The points of one lines across and two lines up."""
    return Spots([(i, j, 1) for i in range(one) for j in range(two)])


def greatest_of(forms):
    """The greatest number of the forms."""
    return max(abs(number) for form in forms for number in form.terms().values())


class Verdicts(unittest.TestCase):

    def look(self, spots):
        """A pair or a paper, never both, looked at by hand; whether it is a pair."""
        told, paper = pair(spots), why_not(spots)
        self.assertEqual((told is None) + (paper is None), 1)
        self.assertIs(is_all(spots), told is not None)
        numbers, degrees, last = row(spots), part_degrees(spots), end(spots)
        self.assertIs(is_all(spots), numbers == numbers[::-1] and degrees == [last] * spots.size)
        if told is not None:
            self.assertIs(type(told), tuple)
            self.assertEqual(tuple(form.degree for form in told), box_degrees(spots))
            self.assertIs(is_pair(spots, told), True)
            for form in told:
                self.assertEqual([worth_by_hand(form, point) for point in spots.points()], [0] * spots.size)
            self.assertLess(greatest_of(told), MOST)
            self.assertIs(is_why_not(spots, told), False)
            for value in self.papers(spots):
                self.assertIs(is_why_not(spots, value), False)
        else:
            self.assertIs(is_why_not(spots, paper), True)
            self.look_at_paper(spots, paper)
        return told is not None

    def papers(self, spots):
        """What might be papers: all places, and for all positions forms that part the point below the end and at it."""
        last = end(spots)
        yield from [("ends", place) for place in range(last + 2)]
        for degree in range(max(0, last - 2), last + 1):
            form = parting_form(spots, 0, degree)
            yield ("parted", 0, form if form is not None else Form(degree, {}))

    def look_at_paper(self, spots, paper):
        """The paper is one by hand."""
        self.assertIs(type(paper), tuple)
        numbers = row(spots)
        if paper[0] == "ends":
            self.assertNotEqual(numbers[paper[1]], numbers[end(spots) - paper[1]])
            self.assertEqual(len(paper), 2)
        else:
            word, position, form = paper
            self.assertEqual(word, "parted")
            self.assertLess(form.degree, end(spots))
            worths = [worth_by_hand(form, point) for point in spots.points()]
            self.assertEqual([at for at, worth in enumerate(worths) if worth != 0], [position])
            self.assertLess(greatest_of([form]), MOST)

    def test_samples(self):
        whole = ("one", "two", "corners", "line of five", "line of nine", "conic of six", "grid of 3 and 3",
                 "grid of 2 and 5", "grid of 4 and 6")
        for name, told in ROWS.items():
            if told is not None:
                self.assertIs(self.look(SAMPLES[name]), name in whole, name)

    def test_corners(self):
        self.assertIs(self.look(Spots([(5, -7, 2)])), True)
        self.assertEqual([form.degree for form in pair(Spots([(5, -7, 2)]))], [1, 1])
        for many in range(2, 10):
            line = Spots([(3 * i, 1 - i, 2) for i in range(many)])
            self.assertIs(self.look(line), True)
            self.assertEqual(pair(line)[0], X.times(2) + Y.times(6) - Z.times(3))
            self.assertEqual([form.degree for form in pair(line)], [1, many])
        source = draws(811)
        for _ in range(5):
            table = draw_table(source, 99)
            self.assertIs(self.look(moved(SAMPLES["corners"], table)), True)
            six = moved(SAMPLES["conic of six"], table)
            self.assertIs(self.look(six), True)
            self.assertEqual(pair(six)[0], form_moved(X * Z - Y * Y, table))
            self.assertEqual(pair(six)[1].degree, 3)

    def test_grids_and_conics(self):
        for one, two in ((1, 1), (1, 5), (2, 2), (2, 3), (3, 3), (2, 7), (3, 5), (4, 4), (4, 5), (3, 7), (2, 8)):
            spots = grid(two, one)
            self.assertIs(self.look(spots), True)
            self.assertEqual([form.degree for form in pair(spots)], [one, two])
            if one < two:
                self.assertIsNone(quotient(pair(spots)[1], pair(spots)[0]))
            if spots.size > 2:
                self.assertIs(self.look(spots.without(0)), one == 1)
            self.assertIs(self.look(spots.with_point((-3, 7, 2))), spots.size == 1)

    def test_moved(self):
        source = draws(812)
        for one, two in ((1, 9), (2, 3), (2, 8), (3, 3), (3, 5), (4, 4)):
            spots = grid(one, two)
            for size in (5, 999999, 999999):
                spots = moved(spots, draw_table(source, size))
                self.assertIs(self.look(spots), True)
            if spots.size > 4:
                self.assertIs(self.look(spots.without(3)), one == 1)

    def test_the_greatest_box_moved(self):
        table = draw_table(draws(813), 999999)
        spots = moved(grid(4, 6), table)
        told = pair(spots)
        self.assertIs(is_pair(spots, told), True)
        self.assertLess(greatest_of(told), MOST)

    def test_no_boxes(self):
        for spots in (BARS, FIVE, SAMPLES["bent"], SAMPLES["six"], SAMPLES["two lines"], SAMPLES["eight of a grid"]):
            self.assertIs(self.look(spots), False)
            self.assertEqual([pair(spots), is_all(spots)], [None, False])
        self.assertEqual(row(FIVE), [1, 2, 2])
        self.assertEqual(why_not(FIVE)[0], "ends")
        self.assertEqual(row(BARS), [1, 2, 1])
        self.assertEqual(why_not(BARS)[:2], ("parted", 3))

    def test_like_ends_and_an_early_point(self):
        source = draws(814)
        for told in ([1, 2, 1], [1, 2, 2, 1], [1, 2, 3, 2, 1], [1, 2, 2, 2, 1], [1, 2, 3, 3, 2, 1],
                     [1, 2, 3, 4, 3, 2, 1], [1, 2, 3, 3, 3, 3, 2, 1]):
            spots = stair(told)
            self.assertIs(self.look(spots), False)
            self.assertEqual(why_not(spots)[0], "parted")
            self.assertIs(self.look(moved(spots, draw_table(source, 999999))), False)

    def test_all_stairs(self):
        for at, told in enumerate(ROWS_BY_HAND):
            if at % 9 == 0:
                self.assertIs(self.look(stair(told)), told in ([1], [1] * len(told)))

    def test_drawn_ones(self):
        source = draws(815)
        for many in (2, 3, 4, 6, 8, 9, 12, 16):
            for _ in range(4):
                self.look(Spots(draw_points(source, many, 2)))

    def test_long_numbers_beside_small_ones(self):
        far = Spots([(0, 0, 1), (1, 0, 0), (10 ** 90 + 1, 7, 3), (5, 10 ** 80 + 9, 1)])
        self.assertIs(self.look(far), True)
        self.assertIs(self.look(far.with_point((0, 1, 0))), False)
        # A form of degree 3 stays short if multiples of the conic are taken off.
        spots = Spots([(1, i, i * i) for i in range(6)])
        self.assertLess(greatest_of(pair(spots)), 1000)

    def test_too_many(self):
        for name in TOO_LONG:
            for function in (pair, is_all, why_not):
                refused(self, TooMany, TOO_MANY, function, SAMPLES[name])
            for value in (None, ("ends", 0), ("parted", 0, Y), 5):
                refused(self, TooMany, TOO_MANY, is_why_not, SAMPLES[name], value)


class IsWhyNot(unittest.TestCase):

    def test_ends(self):
        # The row is 1, 2, 2, 1, 1, which differs from what is read from the other end at the places 1 and 3.
        spots = stair([1, 2, 2, 1, 1])
        told = [is_why_not(spots, ("ends", place)) for place in range(6)]
        self.assertEqual(told, [False, True, False, True, False, False])
        self.assertIn(why_not(spots), (("ends", 1), ("ends", 3)))
        self.assertEqual([is_why_not(FIVE, ("ends", place)) for place in range(4)], [True, False, True, False])
        for value in (("ends", True), ("ends", -1), ("ends", "0"), ("ends", None), ("ends", Odd()), ("ends", [0]), ["ends", 0],
                      ("ends", 0, 0), ("ends",), ("end", 0), (0, "ends"), ("ends", 10 ** 29), ("ends", (0,)), (b"ends", 0),
                      ("ends", 0, Y), ("parted", 0)):
            self.assertIs(is_why_not(FIVE, value), False)

    def test_true_is_not_one(self):
        spots = stair([1, 2, 2, 1, 1])
        self.assertIs(is_why_not(spots, ("ends", 1)), True)
        self.assertIs(is_why_not(spots, ("ends", True)), False)
        self.assertIs(is_why_not(FIVE, ("ends", False)), False)
        beside = Spots([(0, 1, 1), (0, 0, 1), (1, 0, 1), (2, 0, 1)])
        self.assertIs(is_why_not(beside, ("parted", 0, Y)), True)
        self.assertIs(is_why_not(beside, ("parted", False, Y)), False)

    def test_parted(self):
        self.assertIs(is_why_not(BARS, ("parted", 3, Y)), True)
        self.assertIs(is_why_not(value=("parted", 3, Y.times(-5)), spots=BARS), True)
        for value in (("parted", 0, Y), ("ends", 0), ("parted", 3, Y * Y), ("parted", 3, Y * Z), ("parted", 3, X),
                      ["parted", 3, Y], ("parted", 3, Y, Y), ("parted", 3), ("parted", Y, 3), ("parted", 3, None),
                      ("parted", 3, Y.terms()), ("parted", 4, Y), ("parted", -1, Y), ("parted", "3", Y), ("parted",),
                      ("parted", 3, Form(1, {})), ("parted", 3, ONE), ("parted", Odd(), Y), ("parted", 3, Odd()),
                      (Odd(), 3, Y), ("Parted", 3, Y), (None, 3, Y), ("parted", (3, Y)), ("parted", [3], Y), (3, Y),
                      (("parted", 3, Y),), Odd(), (), early(BARS), pair(SQUARE), "parted", ("ends", 3, Y)):
            self.assertIs(is_why_not(BARS, value), False)
        # A point that is parted early is a paper whatever the ends are.
        spots = SAMPLES["nine of a line, one beside"]
        self.assertIs(is_why_not(spots, ("parted", 9, Y)), True)
        self.assertIs(is_why_not(spots, ("ends", 1)), True)
        for degree in range(1, 10):
            self.assertIs(is_why_not(spots, ("parted", 9, Form(degree, {(0, degree, 0): -2}))), degree < 8)

    def test_any_values(self):
        for value in NO_FORMS + [Y, (Y, Y), [], ("ends", Odd())]:
            for spots in (BARS, SQUARE, FIVE):
                self.assertIs(is_why_not(spots, value), False)

    def test_points_with_a_pair(self):
        for spots in (SQUARE, grid(3, 3)):
            last = end(spots)
            for place in range(last + 1):
                self.assertIs(is_why_not(spots, ("ends", place)), False)
            form = parting_form(spots, 0, last)
            self.assertIs(is_why_not(spots, ("parted", 0, form)), False)


class Parameters(unittest.TestCase):

    def test_all(self):
        for function in (pair, is_all, why_not):
            for spots in (SQUARE, BARS):
                look_at_parameters(self, function, [("spots", spots, InvalidSpots, NO_SPOTS)])
                told_twice(self, function, spots)
        for value in (None, ("parted", 3, Y)):
            look_at_parameters(self, is_why_not, [("spots", BARS, InvalidSpots, NO_SPOTS), ("value", value, None, [])])
            told_twice(self, is_why_not, BARS, value)


if __name__ == "__main__":
    unittest.main()
