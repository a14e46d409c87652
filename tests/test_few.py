"""Points that fail at a degree, and why few ones do."""

import unittest
from itertools import combinations

from pointrows.conditions import conditions
from pointrows.errors import InvalidDegree, InvalidSpots, NotFew
from pointrows.few import fails, is_why_fails, why_fails
from pointrows.forms import Form, letter_forms
from pointrows.lines import line_through, lines_of, meet
from pointrows.points import Spots
from pointrows.tables import form_moved, moved
from tests.helpers import (NO_COUNTS, NO_FORMS, NO_SPOTS, Odd, draw_points, draw_table, draws, look_at_parameters,
                           no_degrees, rank_by_hand, refused, told_twice, worth_by_hand)
from tests.samples import SAMPLES

X, Y, Z = letter_forms()
FAR = Spots([(0, 0, 1), (1, 0, 1), (2, 0, 1), (3, 0, 1), (0, 1, 1)])
BOW = Spots([(1, 0, 0), (1, 1, 1), (1, 2, 4), (1, 3, 9), (1, -1, 1), (1, -2, 4), (1, -3, 9), (0, 0, 1)])
CONIC = X * Z - Y * Y
NO_WHY_DEGREES = no_degrees(9) + [0]


def most(degree):
    """How many points are few at the degree, and not more than there can be."""
    return 3 if degree == 1 else min(24, 3 * degree - 1)


def holds_too_many(spots, degree):
    """Whether a line passes d + 2 of the points, or a form of degree 2 passes 2 d + 2, by looking at all fives."""
    points = spots.points()
    for two in combinations(points, 2):
        if sum(rank_by_hand([*two, point]) == 2 for point in points) >= degree + 2:
            return True
    return any(on_conic(points, five) >= 2 * degree + 2 for five in combinations(points, 5))


def on_conic(points, five):
    """How many of the points are on each form of degree 2 through the five."""
    rows = [[x * x, x * y, x * z, y * y, y * z, z * z] for x, y, z in five]
    many = rank_by_hand(rows)
    return sum(rank_by_hand(rows + [[x * x, x * y, x * z, y * y, y * z, z * z]]) == many for x, y, z in points)


class Fails(unittest.TestCase):

    def test_samples(self):
        for name, spots in SAMPLES.items():
            for degree in range(10):
                self.assertIs(fails(spots, degree), conditions(spots, degree) < spots.size, name)

    def test_some(self):
        self.assertEqual([fails(FAR, 2), fails(FAR, 3), fails(BOW, 3), fails(BOW, 4)], [True, False, True, False])
        self.assertEqual([fails(SAMPLES["one"], 0), fails(SAMPLES["two"], 0)], [False, True])
        self.assertIs(fails(degree=9, spots=SAMPLES["line of 24"]), True)


class WhyFails(unittest.TestCase):

    def look(self, spots, degree):
        """What why_fails tells, looked at by hand."""
        told = why_fails(spots, degree)
        if told is None:
            self.assertIs(fails(spots, degree), False)
            return None
        self.assertIs(fails(spots, degree), True)
        self.assertIs(type(told), tuple)
        word, form, positions = told
        self.assertEqual(form.degree, {"line": 1, "conic": 2}[word])
        self.assertFalse(form.is_nought)
        self.assertIs(type(positions), list)
        self.assertEqual(positions, sorted(set(positions)))
        self.assertEqual(len(positions), form.degree * degree + 2)
        points = spots.points()
        self.assertEqual([worth_by_hand(form, points[at]) for at in positions], [0] * len(positions))
        self.assertLess(max(abs(number) for number in form.terms().values()), 10 ** 600)
        self.assertIs(is_why_fails(spots, degree, told), True)
        return word

    def test_samples(self):
        for spots in SAMPLES.values():
            for degree in range(1, 10):
                if spots.size > most(degree):
                    refused(self, NotFew, {}, why_fails, spots, degree)
                else:
                    self.look(spots, degree)

    def test_lines(self):
        source = draws(731)
        for degree in range(1, 10):
            line = [(i, 5 - 2 * i, 3) for i in range(degree + 2)]
            self.assertEqual(self.look(Spots(line), degree), "line")
            self.assertIsNone(self.look(Spots(line[1:]), degree))
            beside = draw_points(source, most(degree) - degree - 2, 40, last=1)
            spots = Spots(beside + line)
            self.assertEqual(self.look(spots, degree), "line")
            self.assertEqual(why_fails(spots, degree)[2], list(range(len(beside), spots.size)))
            if beside:
                self.assertIsNone(self.look(Spots(beside + line[1:]), degree))

    def test_more_of_a_line(self):
        spots = Spots([(i, 7, 1) for i in range(8)])
        self.assertEqual(self.look(spots, 5), "line")
        self.assertEqual(self.look(spots, 6), "line")
        self.assertIsNone(self.look(spots, 7))
        both = Spots([(i, 0, 1) for i in range(1, 7)] + [(0, i, 1) for i in range(1, 6)])
        self.assertEqual(self.look(both, 4), "line")

    def test_the_line_with_short_numbers_is_told(self):
        # Two lines hold six of the eleven points each; the numbers of the first one have 700 digits.
        source = draws(734)
        one, two = [tuple(source.randrange(10 ** 350) for _ in range(3)) for _ in range(2)]
        far = [tuple(a + i * b for a, b in zip(one, two)) for i in range(5)]
        both = meet(line_through(one, two), Y)
        spots = Spots(far + [both] + [(i, 0, 1) for i in range(5)])
        self.assertEqual(lines_of(spots), [[0, 1, 2, 3, 4, 5], [5, 6, 7, 8, 9, 10]])
        self.assertEqual(self.look(spots, 4), "line")
        self.assertEqual(why_fails(spots, 4), ("line", Y, [5, 6, 7, 8, 9, 10]))
        long = line_through(one, two)
        self.assertGreater(max(abs(number) for number in long.terms().values()), 10 ** 600)
        self.assertIs(is_why_fails(spots, 4, ("line", long, [0, 1, 2, 3, 4, 5])), True)

    def test_conics(self):
        source = draws(732)
        for degree in range(3, 10):
            conic = [(1, i, i * i) for i in range(2 * degree + 2)]
            beside = draw_points(source, most(degree) - 2 * degree - 2, 60, last=-7)
            spots = Spots(conic + beside)
            self.assertEqual(self.look(spots, degree), "conic")
            self.assertEqual(why_fails(spots, degree)[1:], (CONIC, list(range(2 * degree + 2))))
            self.assertIsNone(self.look(Spots(conic[1:] + beside), degree))
            self.assertEqual(self.look(Spots(beside + conic[:5] + conic[5:]), degree), "conic")
            table = draw_table(source, 999999)
            led = moved(spots, table)
            self.assertEqual(self.look(led, degree), "conic")
            self.assertEqual(why_fails(led, degree)[1], form_moved(CONIC, table))

    def test_two_lines(self):
        for degree in range(3, 9):
            one = [(i, 0, 1) for i in range(1, degree + 2)]
            two = [(0, i, 1) for i in range(1, degree + 2)]
            self.assertEqual(self.look(Spots(one + two), degree), "conic")
            self.assertEqual(why_fails(Spots(one + two), degree)[1], X * Y)
            self.assertIsNone(self.look(Spots(one + two[1:]), degree))
            self.assertEqual(self.look(Spots(one + two[1:] + [(0, 0, 1)]), degree), "line")

    def test_drawn_ones(self):
        source = draws(733)
        for degree in (1, 2, 3, 4):
            for size in (1, 2, 3):
                for _ in range(4):
                    spots = Spots(draw_points(source, source.randint(min(most(degree), 2), most(degree)), size))
                    wanted = holds_too_many(spots, degree) if spots.size >= 5 else fails(spots, degree)
                    self.assertIs(self.look(spots, degree) is not None, wanted)

    def test_not_few(self):
        for degree in range(1, 9):
            line = [(i, 3, 1) for i in range(most(degree) + 1)]
            refused(self, NotFew, {}, why_fails, Spots(line), degree)
            self.assertEqual(self.look(Spots(line[1:]), degree), "line")
        refused(self, NotFew, {}, why_fails, SAMPLES["corners"], 1)
        refused(self, NotFew, {}, why_fails, SAMPLES["six"], 2)
        self.assertIsNone(self.look(SAMPLES["drawn 24"], 9))
        self.assertEqual(self.look(SAMPLES["line of 24"], 9), "line")
        self.assertEqual(self.look(SAMPLES["conic of 24"], 9), "conic")

    def test_some(self):
        self.assertEqual([why_fails(FAR, 2)[2], why_fails(BOW, 4), why_fails(BOW, 3)[0]], [[0, 1, 2, 3], None, "conic"])
        self.assertEqual(why_fails(degree=2, spots=FAR)[0], "line")


class IsWhyFails(unittest.TestCase):

    def test_some(self):
        for value in (("line", Y, [0, 1, 2, 3]), ("line", Y.times(-7), (3, 2, 1, 0)), ("line", Y, [2, 0, 1, 3])):
            self.assertIs(is_why_fails(FAR, 2, value), True)
        self.assertIs(is_why_fails(BOW, 3, ("conic", CONIC.times(-2), list(range(8)))), True)
        self.assertIs(is_why_fails(value=("conic", CONIC, (7, 6, 5, 4, 3, 2, 1, 0)), spots=BOW, degree=3), True)
        self.assertIs(is_why_fails(SAMPLES["corners"], 1, ("conic", X * Y - Y * Z, [3, 0, 2, 1])), True)
        self.assertIs(is_why_fails(SAMPLES["corners"], 1, ("conic", X * Y, [3, 0, 2, 1])), False)
        self.assertIs(is_why_fails(SAMPLES["corners"], 1, ("conic", X * Y + Y * Z - (X * Z).times(2), [3, 0, 2, 1])),
                      True)

    def test_many_points(self):
        spots = SAMPLES["conic of 24"]
        self.assertIs(is_why_fails(spots, 3, ("conic", CONIC, list(range(5, 13)))), True)
        self.assertIs(is_why_fails(spots, 3, ("conic", CONIC, list(range(5, 12)))), False)
        self.assertIs(is_why_fails(SAMPLES["line of 24"], 9, ("line", Z, list(range(23, 12, -1)))), True)
        self.assertIs(is_why_fails(SAMPLES["line of 24"], 1, ("line", Z, [5, 9, 2])), True)

    def test_no_whys(self):
        good = [0, 1, 2, 3]
        for value in (("line", Y, [0, 1, 2]), ("line", Y, [0, 1, 2, 3, 3]), ("line", Y, [0, 1, 2, 2]),
                      ("line", Y, [0, 1, 2, 4]), ("line", Y, [0, 1, 2, 5]), ("line", Y, [0, 1, 2, -1]),
                      ("line", Y, [False, 1, 2, 3]), ("line", Y, [0, True, 2, 3]), ("line", Y, [0, 1, 2, "3"]),
                      ("line", Y, [0, 1, 2, None]), ("line", Y, [0, 1, 2, [3]]), ("line", Y, [0, 1, 2, 10 ** 29]),
                      ("line", Y, {0, 1, 2, 3}), ("line", Y, {0: 0, 1: 1, 2: 2, 3: 3}), ("line", Y, "0123"),
                      ("line", Y, range(4)), ("line", Y, None), ("line", Y, []), ("line", X, good),
                      ("line", Form(1, {}), good), ("line", Y * Y, good), ("line", Form(0, {(0, 0, 0): 1}), good),
                      ("line", None, good), ("line", Y.terms(), good), ("conic", Y, good), ("conic", Y * Y, good),
                      ("conic", Y * Y, [0, 1, 2, 3, 0, 1]), ("conic", X * Y, [0, 1, 2, 3, 4, 5]), ("cubic", Y, good),
                      ("Line", Y, good), (b"line", Y, good), (1, Y, good), (None, Y, good), (["line"], Y, good),
                      (Odd(), Y, good), ("line", Odd(), good), ("line", Y, Odd()), ("line", Y, [Odd(), 1, 2, 3]),
                      ["line", Y, good], ("line", Y), ("line", Y, good, 0), ("line",), (), ("line", good, Y),
                      (Y, "line", good), {"line": Y}, "line", None, Y, 5, Odd(), FAR, good):
            self.assertIs(is_why_fails(FAR, 2, value), False)
        self.assertIs(is_why_fails(FAR, 3, ("line", Y, good)), False)
        self.assertIs(is_why_fails(FAR, 1, ("line", Y, good)), False)
        self.assertIs(is_why_fails(BOW, 3, ("conic", Form(2, {}), list(range(8)))), False)
        self.assertIs(is_why_fails(BOW, 3, ("line", CONIC, list(range(8)))), False)
        self.assertIs(is_why_fails(BOW, 3, ("conic", CONIC, [0, 1, 2, 3, 4, 5, 6, 6])), False)
        self.assertIs(is_why_fails(BOW, 3, ("conic", CONIC * Z, list(range(8)))), False)


class Parameters(unittest.TestCase):

    def test_all(self):
        look_at_parameters(self, fails, [
            ("spots", FAR, InvalidSpots, NO_SPOTS), ("degree", 2, InvalidDegree, no_degrees(9))])
        look_at_parameters(self, why_fails, [
            ("spots", FAR, InvalidSpots, NO_SPOTS), ("degree", 2, InvalidDegree, NO_WHY_DEGREES)])
        for value in (None, ("line", Y, [0, 1, 2, 3])):
            look_at_parameters(self, is_why_fails, [
                ("spots", FAR, InvalidSpots, NO_SPOTS), ("degree", 2, InvalidDegree, NO_WHY_DEGREES),
                ("value", value, None, [])])
        refused(self, InvalidDegree, {"value": 0}, why_fails, SAMPLES["line of 24"], 0)
        self.assertIs(fails(FAR, 0), True)

    def test_twice(self):
        told_twice(self, fails, FAR, 2)
        told_twice(self, why_fails, FAR, 2)
        told_twice(self, is_why_fails, FAR, 2, ("line", Y, [0, 1, 2, 3]))
        told_twice(self, is_why_fails, FAR, 2, ("line", Y, (0, 1, 2, 3)))


if __name__ == "__main__":
    unittest.main()
