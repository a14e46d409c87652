"""Sorts, written forms, and what they are read back as."""

import unittest

from pointrows.errors import InvalidSort, InvalidText, InvalidThing
from pointrows.forms import Form, letter_forms
from pointrows.points import Spots
from pointrows.possible import is_row
from pointrows.readers import read
from pointrows.stairs import stair
from pointrows.sums import sums
from pointrows.tables import form_moved, moved
from pointrows.texts import is_of, sorts, written
from tests.helpers import (NO_FORMS, NO_INTEGERS, NO_POINTS, NO_SPOTS, NO_TABLES, Odd, draw_form, draw_points, draw_table,
                           draws, refused, told_twice, triples_by_hand)
from tests.samples import SAMPLES
from tests.test_possible import NO_ROWS, ROWS_BY_HAND

X, Y, Z = letter_forms()
SORTS = ["point", "spots", "form", "table", "row", "sum"]
LONG = 10 ** 599 + 7
NO_SORTS = NO_INTEGERS + [
    0, 7, "Point", "points", "point ", " point", "pointspots", "p", "title", ("point",), ["point"], Form, X, "rows", "sums"]
NO_SUMS = [value for value in NO_INTEGERS if not isinstance(value, (list, tuple))] + [
    0, 7, [], (), [0], (0, 0), [0] * 24, [1] * 25, [True], [1, True], [1, False], [1, "1"], [1, None], [[1]], [Odd()], [1, Odd()],
    {0: 1}, {1}, "1,2",
]
# For each sort values that are of it, with the lines of their written forms.
GOOD = {
    "point": [((2, -4, 0), ["point 1:-2:0"]), ([2, -4, 0], ["point 1:-2:0"]), ((0, 0, -7), ["point 0:0:1"]),
              ([-3, 0, 6], ["point 1:0:-2"]), ((LONG, -1, 0), [f"point {LONG}:-1:0"])],
    "spots": [(Spots([(0, 0, 1)]), ["spots", "spot 0:0:1"]),
              (Spots([(0, 0, 5), (2, -4, 0), (-1, 1, 1)]), ["spots", "spot 0:0:1", "spot 1:-2:0", "spot 1:-1:-1"]),
              (Spots([(1, i, 0) for i in range(24)]), ["spots"] + [f"spot 1:{i}:0" for i in range(24)])],
    "form": [(Form(2, {(0, 2, 0): -3, (1, 0, 1): 1}), ["form 2", "term 1:0:1 1", "term 0:2:0 -3"]),
             (Form(0, {}), ["form 0"]), (Form(12, {}), ["form 12"]), (Form(0, {(0, 0, 0): -1}), ["form 0", "term 0:0:0 -1"]),
             (Form(12, {(10, 2, 0): LONG, (0, 0, 12): -LONG}), ["form 12", f"term 10:2:0 {LONG}", f"term 0:0:12 {-LONG}"])],
    "table": [(((1, 0, 0), (0, 2, 0), (0, 0, 1)), ["table 1,0,0;0,2,0;0,0,1"]),
              ([[0, -2, 0], (4, 0, 0), [0, 0, -6]], ["table 0,-2,0;4,0,0;0,0,-6"])],
    "row": [([1, 2, 1], ["row 1,2,1"]), ((1,), ["row 1"]), ([1] * 9, ["row 1,1,1,1,1,1,1,1,1"])],
    "sum": [([1, -2, 1, 0], ["sum 1,-2,1,0"]), ((0, -5), ["sum 0,-5"]), ([0] * 23 + [LONG], ["sum " + "0," * 23 + str(LONG)])],
}
WRONG = {"point": NO_POINTS, "spots": NO_SPOTS, "form": NO_FORMS, "table": NO_TABLES, "row": NO_ROWS, "sum": NO_SUMS}


class Texts(unittest.TestCase):

    def test_sorts(self):
        self.assertEqual(sorts(), SORTS)
        told_twice(self, sorts)

    def test_written_and_read(self):
        for sort, values in GOOD.items():
            for value, lines in values:
                self.assertIs(is_of(sort, value), True)
                text = "".join(line + "\n" for line in lines)
                self.assertEqual(written(sort, value), text)
                self.look_back(sort, text)
                told_twice(self, written, sort, value)
                told_twice(self, is_of, sort, value)

    def look_back(self, sort, text):
        """What is written is read back as a value of the sort with this written form, of the kind that is told."""
        told = read(text)
        self.assertIs(type(told), tuple)
        self.assertEqual(told[0], sort)
        kinds = {"point": tuple, "spots": Spots, "form": Form, "table": tuple, "row": list, "sum": list}
        self.assertIs(type(told[1]), kinds[sort])
        if sort == "table":
            self.assertEqual([type(row) for row in told[1]], [tuple] * 3)
        self.assertIs(is_of(sort, told[1]), True)
        self.assertEqual(written(*told), text)
        told_twice(self, read, text)
        return told[1]

    def test_other_values(self):
        for sort, values in WRONG.items():
            for value in values:
                self.assertIs(is_of(sort, value), False, (sort, value))
                refused(self, InvalidThing, {"value": value}, written, sort, value)
                refused(self, InvalidThing, {"value": value}, written, value=value, sort=sort)

    def test_each_sort_for_each_value(self):
        samples = [(1, 2, 1), [0, 0, 3], SAMPLES["one"], X, [[1, 0, 0], [0, 1, 0], [0, 0, 1]], [1, 2, 1], (1, 1, 1), [0, 1]]
        wanted = [["point", "row", "sum"], ["point", "sum"], ["spots"], ["form"], ["table"], ["point", "row", "sum"],
                  ["point", "row", "sum"], ["sum"]]
        self.assertEqual([[sort for sort in SORTS if is_of(sort, value)] for value in samples], wanted)
        self.assertIs(is_of(value=(1, 2, 1), sort="sum"), True)

    def test_wrong_sorts(self):
        for sort in NO_SORTS:
            for value in (None, (1, 2, 1), X):
                refused(self, InvalidSort, {"value": sort}, is_of, sort, value)
                refused(self, InvalidSort, {"value": sort}, written, sort, value)
                refused(self, InvalidSort, {"value": sort}, written, value=value, sort=sort)

    def test_drawn_values(self):
        source = draws(911)
        for size in (3, 999999):
            for _ in range(4):
                table = draw_table(source, size)
                spots = Spots(draw_points(source, source.randint(1, 24), size + 1))
                form = draw_form(source, source.randint(0, 12), size, 0.4)
                for value in (spots, moved(moved(spots, table), table)):
                    self.assertEqual(self.look_back("spots", written("spots", value)), value)
                    point = value.points()[0]
                    self.assertEqual(self.look_back("point", written("point", [-3 * number for number in point])), point)
                    for numbers in sums(value, 2)[:2]:
                        self.assertEqual(self.look_back("sum", written("sum", numbers)), numbers)
                for value in (form, form_moved(form, table)):
                    self.assertEqual(self.look_back("form", written("form", value)), value)
                self.assertEqual(self.look_back("table", written("table", table)), tuple(tuple(row) for row in table))
        for told in ROWS_BY_HAND:
            self.assertEqual(self.look_back("row", written("row", told)), told)
            self.assertEqual(self.look_back("spots", written("spots", stair(told))), stair(told))


class Readers(unittest.TestCase):

    def look(self, text, line):
        """The line that is wrong."""
        refused(self, InvalidText, {"line": line}, read, text)
        refused(self, InvalidText, {"line": line}, read, text=text)

    def test_no_strings(self):
        for value in NO_INTEGERS + [0, 7, ["point 1:0:0\n"], ("row 1\n",), b"row 1\n", X, SAMPLES["one"], ("row", [1])]:
            if not isinstance(value, str):
                self.look(value, 0)

    def test_first_lines(self):
        for text in ("", "\n", "x", "x\n", "point", "point\n", "point \n", "point 1:0:0", " point 1:0:0\n", "point  1:0:0\n",
                     "point 1:0:0 \n", "point 1:0\n", "point 1:0:0:0\n", "point 0:0:0\n", "point 2:4:2\n", "point -1:0:0\n",
                     "point 0:-1:1\n", "point 1:-0:0\n", "point 1:00:0\n", "point 01:0:0\n", "point 1:+1:0\n", "point 1: 1:0\n",
                     "point 1:--1:0\n", "point 1:-:0\n", "point 1::0\n", "point 1,0,0\n", "point a:0:1\n", "Point 1:0:0\n",
                     "point 1.0:0:1\n", "point 1_0:0:1\n", "point (1, 0, 0)\n", "points 1:0:0\n", "point 1:1e3:0\n",
                     "spots", "spots \n", " spots\n", "spots 0:0:1\n", "spot 0:0:1\n", "spots 1\n", "Spots\n",
                     "form", "form\n", "form \n", "form 13\n", "form -1\n", "form -0\n", "form 02\n", "form x\n", "form 2 \n",
                     "form 2 2\n", "form 2:\n", "form 99999999999\n", "form  2\n", "term 0:0:0 1\n", "form 2",
                     "table\n", "table 1,0,0;0,1,0\n", "table 1,0,0;0,1,0;0,0,0\n", "table 1,0,0;0,1,0;0,0,1;1,1,1\n",
                     "table 1,0,0;0,1,0;0,0,1", "table 1,0;0,1;0,0\n", "table 1,0,0,0,1,0,0,0,1\n", "table 1,0,0; 0,1,0;0,0,1\n",
                     "table 1,0,0;0,1,0;0,0,01\n", "table 1,2,3;4,5,6;7,8,9\n", "table 1:0:0;0:1:0;0:0:1\n",
                     "table 1,0,0;0,1,0;0,0,1;\n", "table ,0,0;0,1,0;0,0,1\n",
                     "row\n", "row \n", "row 0\n", "row 1,3\n", "row 2\n", "row 1,2,1,2\n", "row 1,1,0\n", "row 1,-1\n", "row 1,2,1",
                     "row 1,1,1,1,1,1,1,1,1,1\n", "row 1, 2\n", "row 1 2\n", "row 1,\n", "row ,1\n", "row 01\n", "row 1,2,1 \n",
                     "row 1,2,3,4,5,6,4\n", "row [1]\n",
                     "sum\n", "sum 0\n", "sum 0,0\n", "sum " + ",".join("1" * 25) + "\n", "sum 1,-0\n", "sum 1,\n", "sum 1,x\n",
                     "sum 1", "sum 1 2\n", "sum\n1\n", "sum 1;2\n", "point 1:0:0;\n", "\npoint 1:0:0\n", "\n\n", " \n"):
            self.look(text, 1)

    def test_second_lines(self):
        for text in ("point 1:0:0\n", "table 1,0,0;0,1,0;0,0,1\n", "row 1,2,1\n", "sum 0,1\n"):
            for more in ("\n", "x", "x\n", text, " ", "spot 0:0:1\n", "term 0:0:0 1\n", "\n\n", text[:-1]):
                self.look(text + more, 2)
        for more in ("", "\n", "x", "spot", "spot\n", "spot \n", "spot 0:0:1", "spot 0:0:2\n", "spot 0:0:0\n", " spot 0:0:1\n",
                     "spot  0:0:1\n", "spot 0:0:1 \n", "spots\n", "point 0:0:1\n", "spot 0:0:-1\n", "spot 0:0\n", "term 0:0:1\n",
                     "spot 0:-0:1\n", "spot 00:0:1\n", "0:0:1\n", "spot0:0:1\n", ":0:1\n"):
            self.look("spots\n" + more, 2)
        for more in ("\n", "x", "term", "term 2:0:0 1", "term 2:0:0 0\n", "term 2:0:0 -0\n", "term 2:0:0\n", "term 2:0:0 \n",
                     "term 2:0:0 01\n", "term 3:0:0 1\n", "term 1:0:0 1\n", "term 2:0 1\n", "term 2:0:0:0 1\n", "term -1:3:0 1\n",
                     "term 2:0:0 1 \n", " term 2:0:0 1\n", "term  2:0:0 1\n", "term 2:0:0  1\n", "term 2:0:0 x\n", "Term 2:0:0 1\n",
                     "term 2,0,0 1\n", "term 02:0:0 1\n", "term 2:-0:0 1\n", "form 2\n", "spot 0:0:1\n", "term 2:0:0 1 1\n",
                     "term 2:0:0 +1\n", "term 2:0:0 1:2\n"):
            self.look("form 2\n" + more, 2)

    def test_later_lines(self):
        self.look("spots\nspot 0:0:1\nspot 0:0:1\n", 3)
        self.look("spots\nspot 0:0:1\nspot 1:0:1\nspot 0:0:1\nspot 2:0:1\n", 4)
        self.look("spots\nspot 0:0:1\n\n", 3)
        self.look("spots\nspot 0:0:1\nspot 1:0:1", 3)
        self.look("spots\nspot 0:0:1\nspots\n", 3)
        most = "spots\n" + "".join(f"spot 1:{i}:0\n" for i in range(24))
        self.assertEqual(read(most)[1].size, 24)
        for more in ("spot 0:0:1\n", "spot 1:0:0\n", "\n", "x", "spot 0:0:1"):
            self.look(most + more, 26)
        self.look("form 1\nterm 0:1:0 4\nterm 1:0:0 4\n", 3)
        self.look("form 1\nterm 0:1:0 4\nterm 0:1:0 4\n", 3)
        self.look("form 1\nterm 0:1:0 4\nterm 0:1:0 4\nterm 0:0:1 4\n", 3)
        self.look("form 1\nterm 0:1:0 4\nterm 0:0:1 0\n", 3)
        self.look("form 1\nterm 0:1:0 4\nterm 0:0:1 1", 3)
        self.look("form 1\nterm 1:0:0 4\nterm 0:1:0 1\nterm 0:0:1 1\n\n", 5)
        self.look("form 0\nterm 0:0:0 1\nterm 0:0:0 1\n", 3)
        self.look("form 1\nterm 1:0:0 1\nspot 0:0:1\n", 3)
        full = "form 2\n" + "".join("term %d:%d:%d -1\n" % triple for triple in triples_by_hand(2))
        self.assertEqual(len(read(full)[1].terms()), 6)
        self.look(full + "term 0:0:2 1\n", 8)

    def test_lines_that_are_changed(self):
        source = draws(912)
        for sort, values in GOOD.items():
            for value, lines in values:
                for at in range(min(len(lines), 4)):
                    for line in ("", lines[at] + " ", " " + lines[at], lines[at].upper(), lines[at] + "0x", "spot", lines[at] + ":1"):
                        changed = lines[:at] + [line] + lines[at + 1:]
                        self.look("".join(one + "\n" for one in changed), at + 1)
                    cut = "".join(one + "\n" for one in lines[:at]) + lines[at]
                    self.look(cut, at + 1)
                twice = "".join(line + "\n" for line in lines + lines)
                self.look(twice, len(lines) + 1)
        for _ in range(30):
            form = draw_form(source, source.randint(1, 6), 9, 0.7)
            lines = written("form", form).split("\n")[:-1]
            at = source.randrange(1, len(lines))
            left = lines[:at] + lines[at + 1:]
            self.assertEqual(len(read("".join(line + "\n" for line in left))[1].terms()), len(lines) - 2)
            if at > 1:
                swapped = lines[:at - 1] + [lines[at], lines[at - 1]] + lines[at + 1:]
                self.look("".join(line + "\n" for line in swapped), at + 1)

    def test_written_forms_are_single(self):
        # A string is read only if it is the written form of what it tells.
        signs = "01-:;, \n"
        texts = ["point " + a + b + c for a in signs for b in (":0:1\n", ":1:1\n") for c in ("", "\n")]
        texts += ["row " + a + b + "\n" for a in signs for b in signs] + ["sum " + a + b + "\n" for a in signs for b in signs]
        texts += ["form 1\nterm 1:0:0 " + a + b + "\n" for a in signs for b in signs]
        told = 0
        for text in texts:
            try:
                sort, value = read(text)
            except InvalidText:
                continue
            self.assertEqual(written(sort, value), text)
            told += 1
        self.assertEqual(told, 10)
        self.assertTrue(all(is_row(value) for value in [read("row 1\n")[1], read("row 1,1\n")[1]]))


if __name__ == "__main__":
    unittest.main()
