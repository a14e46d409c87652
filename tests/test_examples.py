"""The examples of the interface, with just the answers that stand there; names stand for what they were last."""

import doctest
import unittest

EXAMPLES = """
>>> from pointrows.forms import Form, letter_forms
>>> x, y, z = letter_forms()
>>> conic = x * z - y * y
>>> [conic, conic.worth((2, 4, 8)), conic.worth([1, 1, 0]), (conic - conic).is_nought, (x + y).times(-2).terms()]
[Form(2, {(1, 0, 1): 1, (0, 2, 0): -1}), 0, -1, True, {(1, 0, 0): -2, (0, 1, 0): -2}]

>>> from pointrows.products import common_form, no_common, primitive, put_in, quotient, slope, triples
>>> [triples(1), slope(conic, "y"), primitive((z - x).times(6)), put_in(conic, [[1, 0, 0], [0, 1, 0], [1, 0, 1]])]
[[(1, 0, 0), (0, 1, 0), (0, 0, 1)], Form(1, {(0, 1, 0): -2}), Form(1, {(1, 0, 0): 1, (0, 0, 1): -1}), Form(2, {(2, 0, 0): 1, (1, 0, 1): 1, (0, 2, 0): -1})]
>>> [quotient((x * x - y * y).times(2), (x + y).times(3)) == x - y, common_form(x * x - y * y, (x + y) * z) == x + y, no_common(conic, x), quotient(conic, x)]
[True, True, True, None]

>>> from pointrows.points import Spots, is_point, same_points, told_point
>>> spots = Spots([(0, 0, 1), (2, 0, 2), [0, -3, -3], (1, 1, 1)])
>>> [is_point((0, 0, 0)), told_point([0, -4, 6]), spots.points(), spots.place((3, 3, 3))]
[False, (0, 2, -3), [(0, 0, 1), (1, 0, 1), (0, 1, 1), (1, 1, 1)], 3]
>>> [spots.without(0).size, same_points(spots, Spots(spots.points()[::-1])), Spots([(2, 0, 0)])]
[3, True, Spots([(1, 0, 0)])]

>>> from pointrows.lines import line_through, lines_of, meet, passed
>>> across, slant = line_through((1, 0, 1), (0, 1, 1)), line_through((0, 0, 1), (1, 1, 1))
>>> [across.terms(), meet(across, slant), passed(spots, across)]
[{(1, 0, 0): 1, (0, 1, 0): 1, (0, 0, 1): -1}, (1, 1, 2), [1, 2]]
>>> [lines_of(spots), lines_of(spots.with_point((1, 1, 2)))]
[[], [[0, 3, 4], [1, 2, 4]]]

>>> from pointrows.tables import behind, form_moved, four_table, is_table, led, moved, undone_table
>>> turn = [[0, -1, 0], [1, 0, 0], [0, 0, 1]]
>>> [led(turn, (1, 2, 1)), undone_table(turn), behind(turn, turn)]
[(2, -1, -1), ((0, 1, 0), (-1, 0, 0), (0, 0, 1)), ((1, 0, 0), (0, 1, 0), (0, 0, -1))]
>>> [moved(spots, turn).points()[1:], form_moved(across, turn).terms(), four_table(spots)]
[[(0, 1, 1), (1, 0, -1), (1, -1, -1)], {(1, 0, 0): 1, (0, 1, 0): -1, (0, 0, 1): 1}, ((0, 1, 0), (0, 0, 1), (-1, 1, 1))]

>>> from pointrows.conditions import conditions, forms_through, is_forms_through
>>> from pointrows.forms import Form
>>> from pointrows.points import Spots
>>> grid = Spots([(0, 0, 1), (0, 1, 1), (0, 2, 1), (1, 0, 1), (1, 1, 1), (1, 2, 1), (2, 0, 1), (2, 1, 1), (2, 2, 1)])
>>> bent = Spots([(0, 0, 1), (1, 0, 1), (2, 0, 1), (0, 1, 1)])
>>> [conditions(grid, 2), conditions(grid, 3), conditions(grid, 4), len(forms_through(grid, 3)), forms_through(bent, 1)]
[6, 8, 9, 2, []]
>>> is_forms_through(bent, 2, [Form(2, {(1, 1, 0): 1}), Form(2, {(0, 2, 0): 1, (0, 1, 1): -1})])
True

>>> from pointrows.rows import count_through, end, row, top
>>> [row(grid), row(bent), end(grid), top(bent), count_through(grid, 3)]
[[1, 2, 3, 2, 1], [1, 2, 1], 4, 2, 2]

>>> from pointrows.sums import comes_of, independent, is_independent, is_sum, is_sums, sums
>>> [is_sum(grid, 3, [1, -2, 1, -2, 4, -2, 1, -2, 1]), len(sums(grid, 3)), len(sums(grid, 2)), sums(grid, 4)]
[True, 1, 3, []]
>>> [is_independent(bent, 1, [0, 1, 3]), is_independent(bent, 1, [0, 1, 2]), is_sums(bent, 1, [[1, -2, 1, 0]]), comes_of(bent, 3, 1), independent(bent, 2)]
[True, False, True, None, [0, 1, 2, 3]]

>>> from pointrows.parting import is_parting, part_degree, part_degrees, parting_form
>>> from pointrows.points import Spots
>>> from pointrows.forms import Form
>>> four, line = Spots([(0, 0, 1), (1, 0, 1), (2, 0, 1), (0, 1, 1)]), Form(1, {(0, 1, 0): 1})
>>> [part_degrees(four), part_degree(four, 3), parting_form(four, 0, 1), is_parting(four, 3, parting_form(four, 3, 1))]
[[2, 2, 2, 1], 1, None, True]
>>> [is_parting(four, 3, line), is_parting(four, 0, line), is_parting(four, 3, line * line)]
[True, False, True]

>>> from pointrows.sheds import all_late, early, is_early, late_rows, row_without
>>> [row_without(four, 3), row_without(four, 0), late_rows(four), all_late(four), early(four)[0]]
[[1, 1, 1], [1, 2], [[1, 1, 1], [1, 2]], False, 3]
>>> [is_early(four, (3, line)), is_early(four, (0, line)), is_early(four, (3, line * line)), all_late(Spots([(0, 0, 1)]))]
[True, False, False, True]

>>> from pointrows.possible import box, box_of, fault, is_mirrored, is_row, mirrored
>>> [is_row([1, 2, 3, 2, 1]), is_row([1, 3]), fault([1, 2, 1, 2]), fault([1, 2, 2]), fault([0])]
[True, False, 3, None, 0]
>>> [mirrored([1, 2, 2]), is_mirrored([1, 2, 1]), box(3, 2), box_of([1, 2, 3, 2, 1]), box_of([1, 2, 2])]
[[2, 2, 1], True, [1, 2, 2, 1], (3, 3), None]

>>> from pointrows.stairs import lengths, row_by, stair
>>> [stair([1, 2, 1]).points(), lengths([1, 2, 3, 2, 1]), row_by([4, 1])]
[[(0, 0, 1), (1, 0, 1), (0, 1, 1), (2, 0, 1)], [5, 3, 1], [1, 2, 1, 1]]

>>> from pointrows.counted import partings, row_count, rows_of
>>> [rows_of(5), row_count(10), partings(10)]
[[[1, 1, 1, 1, 1], [1, 2, 1, 1], [1, 2, 2]], 9, 9]

>>> from pointrows.still import row_off, row_on, still_places
>>> from pointrows.points import Spots
>>> far = Spots([(0, 0, 1), (1, 0, 1), (2, 0, 1), (3, 0, 1), (0, 1, 1)])
>>> [still_places(far), row_on([1, 2, 1, 1], 2), row_off([1, 2, 1, 1], 2), row_on([1, 2, 3, 3, 1, 1, 1], 4), row_off([1, 2, 3, 3, 1, 1, 1], 4)]
[[2], [1, 1, 1, 1], [1], [1, 1, 1, 1, 1, 1, 1], [1, 2, 2]]

>>> from pointrows.forms import Form
>>> from pointrows.hidden import hidden_form, hidden_points
>>> bow = Spots([(1, 0, 0), (1, 1, 1), (1, 2, 4), (1, 3, 9), (1, -1, 1), (1, -2, 4), (1, -3, 9), (0, 0, 1)])
>>> [hidden_form(far, 2) == Form(1, {(0, 1, 0): 1}), hidden_points(far, 2), hidden_form(bow, 2) == Form(2, {(1, 0, 1): 1, (0, 2, 0): -1}), hidden_points(bow, 2)[1]]
[True, ([0, 1, 2, 3], [4]), True, []]

>>> from pointrows.few import fails, is_why_fails, why_fails
>>> [fails(far, 2), fails(far, 3), is_why_fails(far, 2, why_fails(far, 2)), why_fails(far, 2)[2], why_fails(bow, 4)]
[True, False, True, [0, 1, 2, 3], None]
>>> [why_fails(bow, 3)[0], is_why_fails(bow, 3, ("conic", Form(2, {(0, 2, 0): 2, (1, 0, 1): -2}), list(range(8)))), is_why_fails(far, 2, ("line", Form(1, {(0, 1, 0): 3}), (3, 2, 1, 0))), is_why_fails(far, 2, ("line", Form(1, {(0, 1, 0): 1}), [0, 1, 2]))]
['conic', True, True, False]

>>> from pointrows.pairs import box_degrees, is_pair
>>> x, y, z = letter_forms()
>>> square, bars = Spots([(0, 0, 1), (0, 1, 1), (1, 0, 1), (1, 1, 1)]), Spots([(0, 0, 1), (1, 0, 1), (2, 0, 1), (0, 1, 1)])
>>> [is_pair(square, (x * x - x * z, y * y - y * z)), is_pair(square, (x * x - x * z, x * x - x * z)), box_degrees(bars)]
[True, False, (2, 2)]

>>> from pointrows.verdicts import is_all, is_why_not, pair, why_not
>>> [is_all(square), is_pair(square, pair(square)), why_not(square), is_all(bars), pair(bars), is_why_not(bars, why_not(bars))]
[True, True, None, False, None, True]
>>> [is_why_not(bars, ("parted", 3, y)), is_why_not(bars, ("parted", 0, y)), is_why_not(bars, ("ends", 0))]
[True, False, False]

>>> from pointrows.nets import meets, net, net_pair
>>> [net([x, x - z], (y, y - z)) == square, net_pair([x, x - z], [y, y - z]) == (x * x - x * z, y * y - y * z)]
[True, True]
>>> [meets(x * x - x * z, y * y - y * z, square), meets(x, y, square), net([x], [y]).points()]
[True, False, [(0, 0, 1)]]

>>> from pointrows.forms import Form
>>> from pointrows.left import is_last, rest, rest_row
>>> from pointrows.points import Spots
>>> nine = Spots([[i, j, 1] for i in range(3) for j in range(3)])
>>> [rest_row(nine, [0]), rest_row(nine, [0, 1, 2]), rest(nine, [0, 1, 2, 3, 4, 5, 6]).points(), rest_row(nine, [])]
[[1, 2, 3, 2], [1, 2, 2, 1], [(2, 1, 1), (2, 2, 1)], [1, 2, 3, 2, 1]]
>>> [is_last(nine, 0, Form(3, {(3, 0, 0): 1, (2, 0, 1): -3, (1, 0, 2): 2})), is_last(nine, 0, Form(3, {(0, 0, 3): 1})), is_last(nine, 0, None)]
[True, False, False]

>>> from pointrows.ninth import is_ninth, ninth
>>> [ninth(rest(nine, [4])), is_ninth(rest(nine, [0]), [0, 0, 5]), is_ninth(rest(nine, [0]), (0, 1, 1))]
[(1, 1, 1), True, False]

>>> from pointrows.cubics import link_row, net_less
>>> from pointrows.forms import letter_forms
>>> x, y, z = letter_forms()
>>> [net_less([x, x - z], [y, y - z], [3]).points(), link_row([1, 2, 1], 2, 3), link_row([1, 1], 2, 2)]
[[(0, 0, 1), (0, 1, 1), (1, 0, 1)], [1, 1], [1, 1]]

>>> from pointrows.forms import Form
>>> from pointrows.texts import is_of, written
>>> [written("point", [2, -4, 0]), written("form", Form(2, {(1, 0, 1): 1, (0, 2, 0): -3})), is_of("sum", [0, 0])]
['point 1:-2:0\\n', 'form 2\\nterm 1:0:1 1\\nterm 0:2:0 -3\\n', False]

>>> from pointrows.readers import read
>>> [read("point 1:-2:0\\n"), read("spots\\nspot 0:0:1\\nspot 1:0:1\\n")[1].size, read("row 1,2,1\\n"), read("table 1,0,0;0,2,0;0,0,1\\n")]
[('point', (1, -2, 0)), 2, ('row', [1, 2, 1]), ('table', ((1, 0, 0), (0, 2, 0), (0, 0, 1)))]

>>> from pointrows.points import Spots
>>> from pointrows.claims import contrary, is_paper_of, is_true
>>> three, x = Spots([(0, 0, 1), (1, 0, 1), (2, 0, 1)]), Form(1, {(1, 0, 0): 1})
>>> [is_true(("parts", three, 2, 1)), contrary(("free", three, 1))[0], is_paper_of(("bound", three, 1), [1, -2, 1]), is_paper_of(("misses", x, (2, 0, 1)), 2), is_paper_of(("broken", [1, 3]), 1)]
[False, 'bound', True, True, True]

>>> from pointrows.commands import is_command, is_deed
>>> [is_command("spots s 0:0:1,2:0:2"), is_command("spots s 0:0:0"), is_command("form f 2 1:0:1*1,0:2:0*-3"), is_command("form f 2 1:0:1*1,1:0:1*2"), is_command("add s 1:-0:1")]
[True, False, True, False, False]
>>> [is_deed("take s 3"), is_deed("row s"), is_command("claim c parts s 0 2"), is_command("claim c parts s 0")]
[True, False, True, False]

>>> from pointrows.desk import Desk
>>> desk = Desk()
>>> desk.do_all("spots s 0:0:1,1:0:1,2:0:1,0:1:1", "claim f all s", "row s", "degrees s", "line x 0:0:1 1:0:1", "passed s x")
['-', 'f false', '1 2 1', '2 2 2 1', '-', '0 1 2']
>>> desk.do_all("take s 3", "whole s", "undo", "state f", "shown x", "still s")
['f true', 'yes', 'take s 3', 'false', 'form 1 0:1:0*1', '-']
"""


class Examples(unittest.TestCase):

    def test_all(self):
        examples = doctest.DocTestParser().get_doctest(EXAMPLES, {}, "examples", "test_examples.py", 0)
        told = []
        doctest.DocTestRunner().run(examples, out=told.append)
        self.assertEqual("".join(told), "")
        self.assertEqual(len(examples.examples), EXAMPLES.count(">>>"))


if __name__ == "__main__":
    unittest.main()
