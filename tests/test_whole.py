"""Promises that hold between the stages: the same points before every part of the program."""

import unittest

from pointrows.claims import contrary, is_claim, is_paper_of, is_true, paper_of
from pointrows.conditions import conditions, forms_through, is_forms_through
from pointrows.counted import rows_of
from pointrows.cubics import link_row, net_less
from pointrows.desk import Desk
from pointrows.errors import NoBox, NoNinth, NotFew, TooMany
from pointrows.few import fails, is_why_fails, why_fails
from pointrows.forms import Form, letter_forms
from pointrows.hidden import hidden_form, hidden_points
from pointrows.left import is_last, rest, rest_row
from pointrows.lines import lines_of, passed
from pointrows.nets import meets, net
from pointrows.ninth import is_ninth, ninth
from pointrows.pairs import box_degrees, is_pair
from pointrows.parting import is_parting, part_degree, part_degrees, parting_form
from pointrows.points import Spots, same_points
from pointrows.possible import box, box_of, fault, is_mirrored, is_row
from pointrows.products import common_form, quotient
from pointrows.readers import read
from pointrows.rows import count_through, end, row, top
from pointrows.sheds import all_late, early, is_early, late_rows, row_without
from pointrows.stairs import lengths, row_by, stair
from pointrows.still import row_off, row_on, still_places
from pointrows.sums import comes_of, independent, is_independent, is_sum, is_sums, sums
from pointrows.tables import form_moved, led, moved
from pointrows.texts import written
from pointrows.verdicts import is_all, is_why_not, pair, why_not
from tests.helpers import draw_points, draw_table, draws
from tests.samples import SAMPLES

X, Y, Z = letter_forms()
MOST = 10 ** 600


def numbers_in(value):
    """All INTEGERS that a value tells, also in forms and points."""
    if isinstance(value, int):
        return [value]
    if isinstance(value, Form):
        return list(value.terms().values())
    if isinstance(value, Spots):
        return numbers_in(value.points())
    if isinstance(value, (list, tuple)):
        return [number for one in value for number in numbers_in(one)]
    return []


def sample_spots():
    """Spots of many kinds."""
    source = draws(961)
    yield from [spots for spots in SAMPLES.values() if spots.size <= 17]
    for told in ([1, 2, 1, 1], [1, 2, 2, 2, 1], [1, 2, 3, 3, 1, 1, 1], [1, 2, 3, 3, 3, 2, 1], [1, 2, 3, 2, 2], [1, 1, 1, 1], [1, 2, 3, 4, 2]):
        yield stair(told)
        yield moved(stair(told), draw_table(source, 9))
    for many in (3, 5, 6, 8, 9, 12):
        yield Spots(draw_points(source, many, 2))
    led_by = Spots([(1, i, i * i) for i in range(7)] + [(0, 1, 3), (5, 1, 1)])
    for _ in range(2):
        led_by = moved(led_by, draw_table(source, 999999))
        yield led_by
    far = net([X, X - Y + Z.times(5), X - Z], [Y, Y - Z.times(2), Y + X - Z.times(8)])
    for _ in range(2):
        far = moved(far, draw_table(source, 999999))
        yield far


ALL = list(sample_spots())
ROWED = [spots for spots in ALL if conditions(spots, 8) == spots.size]


class Stages(unittest.TestCase):

    def test_there_are_some_of_each(self):
        self.assertGreater(len(ROWED), 30)
        self.assertGreater(len(ALL), len(ROWED))
        self.assertGreater(len([spots for spots in ROWED if is_all(spots)]), 9)
        self.assertGreater(len([spots for spots in ROWED if still_places(spots)]), 9)

    def test_rows(self):
        for spots in ROWED:
            told, last, first = row(spots), end(spots), top(spots)
            self.assertIs(is_row(told), True)
            self.assertIsNone(fault(told))
            self.assertEqual(sum(told), spots.size)
            self.assertEqual(told, [conditions(spots, 0)] + [conditions(spots, t) - conditions(spots, t - 1) for t in range(1, last + 1)])
            self.assertEqual(first, [count_through(spots, t) > 0 for t in range(10)].index(True))
            self.assertEqual(told[:first], list(range(1, first + 1)))
            self.assertEqual(max(told), first)
            self.assertEqual(told[first - 1:], sorted(told[first - 1:], reverse=True))
            self.assertEqual(row(stair(told)), told)
            self.assertEqual(row_by(lengths(told)), told)
            self.assertIn(told, rows_of(spots.size))
            self.assertEqual(is_mirrored(told), box_of(told) is not None)

    def test_too_long_rows(self):
        for spots in ALL:
            if conditions(spots, 8) < spots.size:
                for function in (row, end, part_degrees, all_late, early, late_rows, still_places, box_degrees, is_all, pair, why_not):
                    with self.assertRaises(TooMany):
                        function(spots)
                self.assertIs(is_claim(("all", spots)), False)
                self.assertIs(is_claim(("stays", spots, 0, 3)), False)
                self.assertIs(is_true(("bound", spots, 8)), True)

    def test_forms_and_sums(self):
        for spots in ALL:
            for degree in (1, 2, 3, 5):
                many = conditions(spots, degree)
                forms, found = forms_through(spots, degree), sums(spots, degree)
                self.assertIs(is_forms_through(spots, degree, forms), True)
                self.assertIs(is_sums(spots, degree, found), True)
                self.assertEqual([len(forms), len(found)], [(degree + 1) * (degree + 2) // 2 - many, spots.size - many])
                self.assertIs(is_independent(spots, degree, independent(spots, degree)), True)
                self.assertEqual(fails(spots, degree), bool(found))
                self.assertIs(is_true(("bound", spots, degree)), bool(found))
                for position in range(0, spots.size, 3):
                    form, own = parting_form(spots, position, degree), comes_of(spots, position, degree)
                    self.assertEqual((form is None) + (own is None), 1)
                    self.assertEqual(form is None, any(numbers[position] for numbers in found))
                    self.assertIs(is_parting(spots, position, form), form is not None)
                    self.assertIs(is_sum(spots, degree, own), own is not None)

    def test_part_degrees(self):
        for spots in ROWED:
            told, degrees, last = row(spots), part_degrees(spots), end(spots)
            self.assertGreaterEqual(degrees.count(last), last + 1)
            for position, degree in enumerate(degrees):
                self.assertEqual(part_degree(spots, position), degree)
                self.assertIsNotNone(parting_form(spots, position, degree))
                if degree > 0:
                    self.assertIsNone(parting_form(spots, position, degree - 1))
                if spots.size > 1:
                    left = row(spots.without(position))
                    self.assertEqual(row_without(spots, position), left)
                    self.assertIn(left, late_rows(spots))
                    self.assertEqual(left + [0] * (last + 1 - len(left)), [number - (t == degree) for t, number in enumerate(told)])
            self.assertEqual(all_late(spots), set(degrees) == {last})
            self.assertEqual(early(spots) is None, all_late(spots))

    def test_standing_still(self):
        for spots in ROWED:
            told = row(spots)
            for place in still_places(spots):
                form, (on, off) = hidden_form(spots, place), hidden_points(spots, place)
                self.assertEqual(form.degree, told[place])
                self.assertEqual(passed(spots, form), on)
                self.assertEqual(sorted(on + off), list(range(spots.size)))
                self.assertEqual(off, [at for at, degree in enumerate(part_degrees(spots)) if degree <= place])
                points = spots.points()
                self.assertEqual(row(Spots([points[at] for at in on])), row_on(told, place))
                self.assertEqual(row(Spots([points[at] for at in off])) if off else [], row_off(told, place))
                for degree in (place, place + 1):
                    forms = forms_through(spots, degree)
                    shared = forms[0]
                    for one in forms:
                        shared = common_form(shared, one)
                    self.assertEqual(shared, form)

    def test_few_points(self):
        for spots in ALL:
            for degree in range(1, 9):
                try:
                    why = why_fails(spots, degree)
                except NotFew:
                    self.assertIs(is_claim(("fails", spots, degree)), False)
                    continue
                self.assertEqual(why is not None, fails(spots, degree))
                self.assertIs(is_why_fails(spots, degree, why), why is not None)
                self.assertIs(is_true(("fails", spots, degree)), why is not None)
                if why is not None and why[0] == "line":
                    self.assertTrue(any(set(why[2]) <= set(line) for line in lines_of(spots)))

    def test_all_or_barred(self):
        for spots in ROWED:
            told, paper = pair(spots), why_not(spots)
            self.assertEqual([is_all(spots), told is None, is_true(("all", spots)), is_true(("bars", spots))],
                             [paper is None, paper is not None, paper is None, paper is not None])
            self.assertEqual(is_all(spots), is_mirrored(row(spots)) and all_late(spots))
            for value in (told, paper, None):
                self.assertIs(is_pair(spots, value), value is told and told is not None)
                self.assertIs(is_why_not(spots, value), value is paper and paper is not None)
            if told is not None:
                self.assertIs(meets(*told, spots), True)
                self.assertEqual(box_degrees(spots), box_of(row(spots)))
                self.assertEqual(row(spots), box(*box_degrees(spots)))
                for form in told:
                    self.assertIsNone(quotient(form, told[0]) if form is told[1] else None)
            elif paper[0] == "parted":
                self.assertIs(is_early(spots, paper[1:]), True)
                self.assertLess(part_degree(spots, paper[1]), end(spots))

    def test_what_is_left(self):
        source = draws(962)
        for spots in ROWED:
            if is_all(spots):
                sides = box_degrees(spots)
                for many in {0, 1, spots.size // 2, spots.size - 1} - {spots.size}:
                    taken = source.sample(range(spots.size), many)
                    left = rest(spots, taken)
                    self.assertEqual(rest_row(spots, taken), row(left))
                    if taken:
                        own = Spots([spots.points()[at] for at in taken])
                        self.assertEqual(link_row(row(own), *sides), row(left))
                        self.assertEqual(link_row(row(left), *sides), row(own))
                if spots.size > 1:
                    others = spots.without(0)
                    for form in forms_through(others, sum(sides) - 3):
                        self.assertIs(is_last(spots, 0, form), True)
                        self.assertEqual(form.worth(spots.points()[0]), 0)
                with self.assertRaises(NoBox):
                    link_row(row(spots), *sides)

    def test_ninth_points(self):
        for spots in ROWED:
            if spots.size == 9 and row(spots) == [1, 2, 3, 2, 1] and is_all(spots):
                for position in range(9):
                    self.assertEqual(ninth(spots.without(position)), spots.points()[position])
            if spots.size == 8:
                try:
                    nine = spots.with_point(ninth(spots))
                except NoNinth:
                    continue
                self.assertIs(is_all(nine), True)
                self.assertIs(is_ninth(spots, nine.points()[8]), True)

    def test_moved(self):
        source = draws(963)
        for spots in ROWED:
            table = draw_table(source, 999)
            other = moved(spots, table)
            self.assertEqual([row(other), top(other), part_degrees(other), still_places(other), late_rows(other) if other.size > 1 else 0],
                             [row(spots), top(spots), part_degrees(spots), still_places(spots), late_rows(spots) if spots.size > 1 else 0])
            self.assertEqual([is_all(other), lines_of(other), box_degrees(other)], [is_all(spots), lines_of(spots), box_degrees(spots)])
            for place in still_places(spots):
                self.assertEqual(hidden_form(other, place), form_moved(hidden_form(spots, place), table))
                self.assertEqual(hidden_points(other, place), hidden_points(spots, place))
            told = pair(spots)
            if told is not None:
                self.assertIs(is_pair(other, (form_moved(told[0], table), form_moved(told[1], table))), True)
            if spots.size == 8 and row(spots) == [1, 2, 3, 2]:
                try:
                    self.assertEqual(ninth(other), led(table, ninth(spots)))
                except NoNinth:
                    with self.assertRaises(NoNinth):
                        ninth(other)

    def test_texts(self):
        for spots in ALL:
            self.assertEqual(read(written("spots", spots)), ("spots", spots))
            for form in forms_through(spots, 2)[:2]:
                self.assertEqual(read(written("form", form)), ("form", form))
            for numbers in sums(spots, 2)[:2]:
                self.assertEqual(read(written("sum", numbers)), ("sum", numbers))
            for point in spots.points()[:3]:
                self.assertEqual(read(written("point", point)), ("point", point))
        for spots in ROWED:
            self.assertEqual(read(written("row", row(spots))), ("row", row(spots)))

    def test_digits(self):
        for spots in ALL:
            told = [forms_through(spots, 4), sums(spots, 3), [paper_of(claim) for claim in self.claims(spots)]]
            told += [[paper_of(contrary(claim)) for claim in self.claims(spots)]]
            self.assertLess(max([abs(number) for number in numbers_in(told)], default=0), MOST)

    def claims(self, spots):
        """Claims of the spots."""
        found = [("free", spots, 2), ("all", spots), ("parts", spots, spots.size - 1, 2), ("fails", spots, 4)]
        return [claim for claim in found if is_claim(claim)]

    def test_claims(self):
        for spots in ALL:
            for claim in self.claims(spots):
                true, false = (claim, contrary(claim)) if is_true(claim) else (contrary(claim), claim)
                self.assertIs(is_paper_of(true, paper_of(true)), True)
                self.assertIs(is_paper_of(false, paper_of(true)), False)
                self.assertIsNone(paper_of(false))
                if claim[0] == "fails":
                    self.assertIs(is_true(claim), is_true(("bound", *claim[1:])))


class Desks(unittest.TestCase):

    def test_answers(self):
        for spots in ROWED:
            word = ",".join("%d:%d:%d" % point for point in spots.points())
            desk = Desk()
            if max(abs(number) for number in numbers_in(spots)) > 999999:
                continue
            desk.do_all("spots s " + word, "claim a all s", "claim b parts s 0 2", "claim c bound s 3")
            self.assertEqual(desk["s"], spots)
            told = {"row s": row(spots), "degrees s": part_degrees(spots), "still s": still_places(spots), "top s": [top(spots)],
                    "end s": [end(spots)], "asks s 3": [conditions(spots, 3)],
                    "lines s": [",".join(map(str, line)) for line in lines_of(spots)]}
            for command, numbers in told.items():
                self.assertEqual(desk.do(command), " ".join(map(str, numbers)) or "-")
            self.assertEqual([desk.do("late s"), desk.do("whole s")], ["yes" if all_late(spots) else "no", "yes" if is_all(spots) else "no"])
            states = ["true" if is_true(desk.claim_of(label)) else "false" for label in "abc"]
            self.assertEqual(desk.do("states"), "a %s, b %s, c %s" % tuple(states))
            for label in "abc":
                claim = desk.claim_of(label)
                paper = paper_of(claim)
                desk.attach(label, paper if paper is not None else paper_of(contrary(claim)))
                self.assertIs(desk.fits(label), True)
            for place in still_places(spots):
                desk.do(f"hidden h s {place}")
                self.assertEqual(desk["h"], hidden_form(spots, place))
                self.assertEqual(desk.do("passed s h"), " ".join(map(str, hidden_points(spots, place)[0])))
                desk.do("drop h")
            if is_all(spots) and spots.size > 2:
                desk.do("rest r s 0,2")
                self.assertEqual(desk["r"], rest(spots, [0, 2]))

    def test_stairs_and_nets(self):
        for at, told in enumerate(rows_of(12)):
            desk = Desk()
            desk.do("stair s " + ",".join(map(str, told)))
            self.assertEqual(desk.do("row s"), " ".join(map(str, told)))
            self.assertEqual(desk.do("claim c row " + ",".join(map(str, told))), "c true")
            desk.attach("c", desk["s"])
            self.assertIs(desk.fits("c"), True)
            self.assertEqual(desk.do(f"rows {at + 1}"), str(len(rows_of(at + 1))))
        desk = Desk()
        desk.do_all("form x 1 1:0:0*1", "form a 1 1:0:0*1,0:0:1*-1", "form y 1 0:1:0*1", "form b 1 0:1:0*1,0:0:1*-1", "form c 1 0:1:0*1,0:0:1*-2")
        desk.do_all("net n x,a y,b,c", "rest r n 1,5", "times p x a", "times q y b", "claim w all n")
        self.assertEqual(desk["r"], net_less([desk["x"], desk["a"]], [desk["y"], desk["b"], desk["c"]], [1, 5]))
        self.assertIs(meets(desk["p"], desk["q"] * desk["c"], desk["n"]), True)
        desk.attach("w", (desk["q"] * desk["c"], desk["p"]))
        self.assertIs(desk.fits("w"), True)
        self.assertIs(same_points(desk["n"], Spots(desk["n"].points()[::-1])), True)


if __name__ == "__main__":
    unittest.main()
