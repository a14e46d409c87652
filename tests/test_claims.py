"""Claims, contrary claims, and papers."""

import unittest

from pointrows.claims import contrary, is_claim, is_paper_of, is_true, paper_of, words
from pointrows.conditions import conditions
from pointrows.errors import InvalidClaim, SpotError, StateError, TooMany
from pointrows.few import why_fails
from pointrows.forms import Form, letter_forms
from pointrows.pairs import is_pair
from pointrows.parting import part_degree
from pointrows.points import Spots
from pointrows.possible import fault
from pointrows.rows import row
from pointrows.stairs import stair
from pointrows.sums import is_sum, sums
from pointrows.tables import moved
from pointrows.verdicts import is_all, is_why_not
from tests.helpers import NO_INTEGERS, Odd, draw_points, draw_table, draws, refused, told_twice, worth_by_hand
from tests.samples import ROWS, SAMPLES
from tests.test_possible import NO_COUNT_LISTS, ROWS_BY_HAND

X, Y, Z = letter_forms()
WORDS = [("all", "bars"), ("passes", "misses"), ("parts", "stays"), ("free", "bound"), ("row", "broken"),
         ("fails", "holds")]
SQUARE = Spots([(0, 0, 1), (0, 1, 1), (1, 0, 1), (1, 1, 1)])
BARS = Spots([(0, 0, 1), (1, 0, 1), (2, 0, 1), (0, 1, 1)])
THREE = Spots([(0, 0, 1), (1, 0, 1), (2, 0, 1)])
TEN = SAMPLES["line of ten"]
MOST = 10 ** 600
# Values of many kinds that may be papers of some claims.
PAPERS = NO_INTEGERS + [
    0, 1, -1, 2, 3, 7, X, Y, Form(2, {}), (X, Y), (X * X - X * Z, Y * Y - Y * Z), [1, -2, 1], (1, -2, 1, 0), [0, 0, 0, 0],
    ("ends", 0), ("parted", 3, Y), ("line", Y, [0, 1, 2]), ["line", Y, [0, 1, 2]], SQUARE, BARS, THREE, stair([1, 2, 1]), [X, Y, Z],
]


def claims_of(spots, degrees):
    """The claims with the first words of such spots, as far as they are claims by their kinds."""
    found = [("all", spots)]
    for degree in degrees:
        found += [("free", spots, degree), ("parts", spots, spots.size // 2, degree)]
        if degree > 0 and spots.size <= max(3, 3 * degree - 1):
            found.append(("fails", spots, degree))
    return found


class Words(unittest.TestCase):

    def test_words(self):
        self.assertEqual(words(), WORDS)
        self.assertEqual([type(both) for both in words()], [tuple] * 6)
        told_twice(self, words)


class Claims(unittest.TestCase):

    def look(self, claim):
        """Just one of the claim and its contrary is true, that one has a paper, and no value is a paper of both."""
        other = contrary(claim)
        self.assertIs(is_claim(claim), True)
        self.assertIs(is_claim(other), True)
        self.assertEqual(contrary(other), claim)
        truth = is_true(claim)
        self.assertIs(type(truth), bool)
        self.assertIs(is_true(other), not truth)
        true, false = (claim, other) if truth else (other, claim)
        paper = paper_of(true)
        self.assertIsNotNone(paper)
        self.assertIsNone(paper_of(false))
        self.assertIs(is_paper_of(true, paper), True)
        self.assertIs(is_paper_of(false, paper), False)
        self.assertEqual(paper_of(true), paper)
        self.look_at_paper(true, paper)
        for value in PAPERS:
            told = is_paper_of(true, value)
            self.assertIs(type(told), bool)
            self.assertIs(is_paper_of(false, value), False)
        return truth

    def look_at_paper(self, claim, paper):
        """The paper is one, by what the other functions tell."""
        word, spots = claim[:2]
        if word == "all":
            self.assertIs(is_pair(spots, paper), True)
        elif word == "bars":
            self.assertIs(is_why_not(spots, paper), True)
        elif word in ("passes", "misses"):
            self.assertEqual(paper, claim[1].worth(claim[2]))
        elif word == "parts":
            self.assertEqual(paper.degree, claim[3])
            self.look_at_parting(spots, claim[2], paper)
        elif word in ("stays", "bound"):
            self.assertIs(is_sum(spots, claim[-1], paper), True)
            self.assertTrue(word == "bound" or paper[claim[2]] != 0)
            self.assertLess(max(abs(number) for number in paper), MOST)
        elif word in ("free", "holds"):
            self.assertIs(type(paper), list)
            self.assertEqual([form.degree for form in paper], [claim[2]] * spots.size)
            for position, form in enumerate(paper):
                self.look_at_parting(spots, position, form)
        elif word == "row":
            self.assertEqual(row(paper), list(claim[1]))
        elif word == "broken":
            self.assertEqual(paper, fault(claim[1]))

    def look_at_parting(self, spots, position, form):
        """The form passes all points but this one, and has numbers that are not too long."""
        worths = [worth_by_hand(form, point) for point in spots.points()]
        self.assertEqual([at for at, worth in enumerate(worths) if worth != 0], [position])
        self.assertLess(max(abs(number) for number in form.terms().values()), MOST)

    def test_samples(self):
        for name, told in ROWS.items():
            spots = SAMPLES[name]
            if spots.size <= 15:
                for claim in claims_of(spots, range(0, 9, 2)):
                    if told is None and claim[0] in ("all", "parts"):
                        self.assertIs(is_claim(claim), False)
                    else:
                        self.look(claim)

    def test_more_points(self):
        for name in ("grid of 4 and 6", "drawn 24", "conic of 17", "line of 24"):
            spots = SAMPLES[name]
            for claim in claims_of(spots, (4, 8)):
                if is_claim(claim):
                    self.look(claim)

    def test_what_is_true(self):
        for name, told in ROWS.items():
            spots = SAMPLES[name]
            for degree in range(9):
                self.assertIs(is_true(("free", spots, degree)), conditions(spots, degree) == spots.size)
                if told is not None:
                    for position in (0, spots.size - 1):
                        self.assertIs(is_true(("parts", spots, position, degree)), part_degree(spots, position) <= degree)
                    self.assertIs(is_true(("all", spots)), is_all(spots))
                if is_claim(("fails", spots, degree)):
                    wanted = why_fails(spots, degree) is not None
                    self.assertIs(is_true(("fails", spots, degree)), wanted)
                    self.assertIs(is_true(("bound", spots, degree)), wanted)

    def test_moved_ones(self):
        source = draws(921)
        for name in ("bent", "corners", "conic of six", "grid of 3 and 3", "two lines", "eight of a grid"):
            led = SAMPLES[name]
            for size in (999999, 999999):
                led = moved(led, draw_table(source, size))
            for claim, before in zip(claims_of(led, (2, 3, 5)), claims_of(SAMPLES[name], (2, 3, 5))):
                self.assertIs(self.look(claim), is_true(before))

    def test_drawn_ones(self):
        source = draws(922)
        for many in (2, 3, 5, 8, 11):
            for _ in range(3):
                for claim in claims_of(Spots(draw_points(source, many, 2)), (1, 2, 3, 4)):
                    self.look(claim)

    def test_forms(self):
        for form, point, wanted in ((X, (0, 0, 1), True), (X, [2, 0, 1], False), (X * Y - Z * Z, [2, 2, 4], False),
                                    (X * Y - Z * Z, (4, 4, 4), True), (Form(3, {}), (1, 2, 3), True), (Form(0, {}), [0, 1, 0], True),
                                    (Form(0, {(0, 0, 0): 5}), (0, 1, 0), False), (X, (10 ** 29, 3, 1), False)):
            self.assertIs(self.look(("passes", form, point)), wanted)
            self.assertEqual(paper_of(("passes" if wanted else "misses", form, point)), form.worth(point))

    def test_rows(self):
        for at, told in enumerate(ROWS_BY_HAND):
            if at % 4 == 0:
                self.assertIs(self.look(("row", told)), True)
                self.assertIs(self.look(("broken", tuple(told) + (7,))), True)
        for told in ([0], [2], [1, 3], [1, 2, 1, 2], [1] * 10, [1] * 30, (1, 10 ** 29), [1, 2, 3, 4, 5, 6, 7], [1, 0]):
            self.assertIs(self.look(("row", told)), False)
            self.assertEqual(paper_of(("broken", told)), fault(told))
        # A row that can be of spots whose row has ten places is not told, so no spots are a paper of it.
        self.assertIs(is_paper_of(("row", [1] * 10), TEN), False)
        self.assertIs(is_paper_of(("row", [1] * 9), TEN.without(0)), True)
        self.assertIs(is_paper_of(("row", (1, 1, 1)), THREE), True)
        self.assertIs(is_paper_of(("row", (1, 2)), THREE), False)
        self.assertIs(is_paper_of(("row", [1, 1, 1]), THREE.points()), False)

    def test_examples(self):
        self.assertEqual([is_true(("parts", THREE, 2, 1)), contrary(("free", THREE, 1))[0],
                          is_paper_of(("bound", THREE, 1), [1, -2, 1]), is_paper_of(("misses", X, (2, 0, 1)), 2),
                          is_paper_of(("broken", [1, 3]), 1)], [False, "bound", True, True, True])


class IsClaim(unittest.TestCase):

    def test_spots(self):
        for word in ("all", "bars"):
            self.assertIs(is_claim((word, BARS)), True)
            self.assertIs(is_claim(value=(word, BARS)), True)
            for value in ((word,), (word, BARS, 1), [word, BARS], (word, BARS.points()), (word, X), (word, None), (word, TEN),
                          (word, SAMPLES["conic of 24"]), (word, Odd())):
                self.assertIs(is_claim(value), False)

    def test_forms(self):
        for word in ("passes", "misses"):
            self.assertIs(is_claim((word, X, (0, 0, 1))), True)
            self.assertIs(is_claim((word, Form(12, {}), [0, 0, -7])), True)
            for value in ((word, X), (word, X, (0, 0, 0)), (word, X, (0, 0, True)), (word, X, X), (word, (0, 0, 1), X), (word,),
                          (word, X.terms(), (0, 0, 1)), (word, X, (0, 0, 1), 1), [word, X, (0, 0, 1)], (word, X, "001"),
                          (word, X, (0, 1)), (word, BARS, (0, 0, 1)), (word, X, Odd()), (word, Odd(), (0, 0, 1))):
                self.assertIs(is_claim(value), False)

    def test_positions_and_degrees(self):
        for word in ("parts", "stays"):
            for position in range(4):
                for degree in range(9):
                    self.assertIs(is_claim((word, BARS, position, degree)), True)
            for value in ((word, BARS, 0), (word, BARS), (word,), (word, BARS, 0, 0, 0), (word, BARS, 4, 1), (word, BARS, 0, 9),
                          (word, BARS, True, 1), (word, BARS, 1, True), (word, BARS, -1, 1), (word, BARS, 1, -1), (word, X, 1, 1),
                          (word, BARS, "1", 1), (word, BARS, 1, None), (word, BARS, 10 ** 29, 1), (word, BARS, 1, 10 ** 29),
                          (word, BARS, [1], 1), (word, TEN, 0, 0), (word, TEN, 0, 8), (word, BARS, Odd(), 1), (word, BARS, 1, Odd()),
                          [word, BARS, 1, 1]):
                self.assertIs(is_claim(value), False)
        for word in ("free", "bound"):
            for degree in range(9):
                self.assertIs(is_claim((word, BARS, degree)), True)
                self.assertIs(is_claim((word, TEN, degree)), True)
            for value in ((word, BARS), (word, BARS, 9), (word, BARS, -1), (word, BARS, True), (word, BARS, False), (word, X, 1),
                          (word, BARS, "1"), (word, BARS, None), (word, BARS, 1, 1), (word, BARS, 10 ** 29), (word, 1, BARS),
                          (word, BARS, Odd()), (word, Odd(), 1), [word, BARS, 1], (word,)):
                self.assertIs(is_claim(value), False)

    def test_few_points(self):
        for word in ("fails", "holds"):
            for many in (1, 2, 3, 4, 5, 6, 8, 9, 11, 12, 23, 24):
                spots = Spots([(1, i, i * i * i) for i in range(many)])
                for degree in range(11):
                    try:
                        why_fails(spots, degree)
                        wanted = degree <= 8
                    except (SpotError, StateError):
                        wanted = False
                    self.assertIs(is_claim((word, spots, degree)), wanted)
            for value in ((word, THREE, True), (word, THREE, "2"), (word, THREE), (word, THREE, 2, 2), (word, X, 2), (word, THREE, Odd()),
                          [word, THREE, 2], (word, THREE, 0), (word, THREE, 9), (word, TEN, 3), (word, None, 2)):
                self.assertIs(is_claim(value), False)
            self.assertIs(is_claim((word, TEN, 4)), True)

    def test_lists(self):
        for word in ("row", "broken"):
            for value in ([0], (1, 3), [1, 2, 1], [5] * 30, [10 ** 29]):
                self.assertIs(is_claim((word, value)), True)
                self.assertIs(is_claim([word, value]), False)
                self.assertIs(is_claim((word, value, value)), False)
            for value in NO_COUNT_LISTS:
                self.assertIs(is_claim((word, value)), False)
            self.assertIs(is_claim((word,)), False)

    def test_any_values(self):
        for value in NO_INTEGERS + [0, 7, X, BARS, (), ("all"), ("none", BARS), ("All", BARS), (b"all", BARS), (None, BARS),
                                    (Odd(), BARS), (["all"], BARS), (("all", "bars"), BARS), (0, BARS), (BARS, "all"), ("", BARS),
                                    {"all": BARS}, ("al", BARS), ("all bars", BARS)]:
            self.assertIs(is_claim(value), False)


class Papers(unittest.TestCase):

    def no_papers(self, claim, values):
        """None of the values is a paper of the claim."""
        for value in values:
            self.assertIs(is_paper_of(claim, value), False, (claim, value))

    def test_pairs(self):
        pair = (X * X - X * Z, Y * Y - Y * Z)
        self.assertIs(is_paper_of(("all", SQUARE), pair), True)
        self.assertIs(is_paper_of(("all", SQUARE), pair[::-1]), True)
        self.no_papers(("all", SQUARE), [list(pair), (pair[0], pair[0]), (X, Y), None])
        self.no_papers(("bars", SQUARE), [pair, ("ends", 0), ("ends", 1), ("parted", 0, Y)])
        self.assertIs(is_paper_of(("bars", BARS), ("parted", 3, Y)), True)
        self.no_papers(("bars", BARS), [["parted", 3, Y], ("parted", 2, Y), ("ends", 0), (3, Y)])

    def test_worths(self):
        self.assertIs(is_paper_of(("passes", X, (0, 2, 1)), 0), True)
        self.no_papers(("passes", X, (0, 2, 1)), [False, None, 1, "0", [0], 0 * X.degree + 1])
        self.no_papers(("misses", X, (0, 2, 1)), [0, 1, None, False, True])
        self.assertIs(is_paper_of(("misses", X, (2, 0, 2)), 1), True)
        self.no_papers(("misses", X, (2, 0, 2)), [True, 2, 0, -1, None, "1", [1]])
        self.no_papers(("passes", X, (2, 0, 2)), [0, 1, False, True, None])

    def test_parting_forms_and_sums(self):
        claim = ("parts", BARS, 3, 2)
        self.assertIs(is_paper_of(claim, Y * Y), True)
        self.assertIs(is_paper_of(claim, (Y * (X - Z)).times(-3)), True)
        self.no_papers(claim, [Y, Y * Y * Y, Y * X, Form(2, {}), [0, 0, 0, 1], None, (3, Y * Y), [Y * Y]])
        self.no_papers(("stays", BARS, 3, 2), PAPERS + [Y * Y])
        claim = ("stays", BARS, 1, 1)
        for value in ([1, -2, 1, 0], (-3, 6, -3, 0)):
            self.assertIs(is_paper_of(claim, value), True)
        self.no_papers(claim, [[0, 0, 0, 0], [1, -2, 1], [1, -2, 1, 1], [1, -2, True, 0], [True, -2, 1, 0], Y, [1, -2, 1, None]])
        self.no_papers(("stays", Spots([(0, 1, 1)] + THREE.points()), 0, 1), [[0, 1, -2, 1], [1, 0, 0, 0]])
        self.no_papers(("parts", BARS, 1, 1), [X, Y, [1, -2, 1, 0]])

    def test_forms_for_all_positions(self):
        lines = [X - Z + Y, Y, X]
        three = Spots([(0, 0, 1), (0, 1, 1), (1, 0, 1)])
        for word in ("free", "holds"):
            claim = (word, three, 1)
            self.assertIs(is_paper_of(claim, lines), True)
            self.assertIs(is_paper_of(claim, tuple(line.times(-2) for line in lines)), True)
            self.no_papers(claim, [lines[:2], lines + [X], lines[::-1], [lines[0], lines[1], None], [lines[0], lines[0], lines[2]], X,
                                   [X - Z + Y, Y * Y, X], {0: lines[0]}, [(line,) for line in lines], None, [0, 0, 0],
                                   [lines[0], Y, Form(1, {})], [Odd(), Odd(), Odd()]])
            self.no_papers(contrary(claim), [lines, [0, 0, 0], [1, -1, 0], ("line", X, [0, 1, 2])])
        one = SAMPLES["one"]
        self.assertIs(is_paper_of(("free", one, 0), [Form(0, {(0, 0, 0): -4})]), True)
        self.no_papers(("free", one, 0), [[Form(0, {})], [X], Form(0, {(0, 0, 0): 1})])

    def test_whys_and_sums(self):
        self.assertIs(is_paper_of(("fails", THREE, 1), ("line", Y, [2, 0, 1])), True)
        self.no_papers(("fails", THREE, 1), [["line", Y, [2, 0, 1]], ("line", Y, [0, 1]), [1, -2, 1], ("line", X, [0, 1, 2]), None])
        self.assertIs(is_paper_of(("bound", THREE, 1), (2, -4, 2)), True)
        self.no_papers(("bound", THREE, 1), [("line", Y, [2, 0, 1]), [0, 0, 0], [1, -2], [1, 2, 1], sums(THREE, 1), None])
        self.no_papers(("bound", THREE, 2), [(2, -4, 2), [0, 0, 0]])

    def test_faults(self):
        self.assertIs(is_paper_of(("broken", [1, 3]), 1), True)
        self.no_papers(("broken", [1, 3]), [True, 0, 2, "1", None, [1], -1])
        self.no_papers(("broken", [0]), [False, 1, None])
        self.assertIs(is_paper_of(("broken", [0]), 0), True)
        self.no_papers(("broken", [1, 2]), [None, 0, 1, 2, stair([1, 2])])
        self.no_papers(("row", [1, 3]), [1, SQUARE, None])


class Contraries(unittest.TestCase):

    def test_copies(self):
        numbers, point = [1, 2, 1], [0, 0, 2]
        for claim in (("row", numbers), ("broken", numbers), ("passes", X, point), ("misses", X, point)):
            other = contrary(claim)
            self.assertIs(type(other), tuple)
            self.assertEqual(other[1:], claim[1:])
            self.assertIsNot(other[-1], claim[-1])
            other[-1].append(5)
            self.assertEqual([numbers, point], [[1, 2, 1], [0, 0, 2]])
        self.assertEqual(contrary(("row", (1, 2))), ("broken", (1, 2)))
        self.assertEqual(contrary(("misses", X, (0, 0, 2))), ("passes", X, (0, 0, 2)))

    def test_words(self):
        for claim in (("all", BARS), ("parts", BARS, 1, 2), ("free", BARS, 2), ("fails", THREE, 1), ("row", [1])):
            for first, second in WORDS:
                if claim[0] == first:
                    self.assertEqual(contrary(claim), (second, *claim[1:]))
                    self.assertEqual(contrary((second, *claim[1:])), claim)


class Parameters(unittest.TestCase):

    def test_no_claims(self):
        wrong = NO_INTEGERS + [0, X, ("all",), ("all", TEN), ["all", BARS], ("row", []), ("fails", BARS, 1), ("fails", THREE, 0),
                               ("parts", BARS, 4, 1), ("free", BARS, 9), ("free", BARS, True), ("passes", X, (0, 0, 0))]
        for value in wrong:
            for function in (is_true, contrary, paper_of):
                refused(self, InvalidClaim, {"value": value}, function, value)
                refused(self, InvalidClaim, {"value": value}, function, claim=value)
            for paper in (None, 0, (X, Y)):
                refused(self, InvalidClaim, {"value": value}, is_paper_of, value, paper)
                refused(self, InvalidClaim, {"value": value}, is_paper_of, value=paper, claim=value)
        with self.assertRaises(TooMany):
            is_all(TEN)

    def test_twice(self):
        for claim in (("all", BARS), ("bars", BARS), ("passes", X, [0, 0, 2]), ("misses", X, [0, 0, 2]), ("parts", BARS, 3, 1),
                      ("stays", BARS, 0, 1), ("free", BARS, 2), ("bound", BARS, 1), ("row", [1, 2]), ("broken", [1, 2]),
                      ("fails", THREE, 1), ("holds", THREE, 2)):
            for function in (is_claim, is_true, contrary, paper_of):
                told_twice(self, function, claim)
            for paper in (paper_of(claim), None, [1, -2, 1, 0]):
                told_twice(self, is_paper_of, claim, paper)


if __name__ == "__main__":
    unittest.main()
