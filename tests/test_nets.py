"""Nets of lines, their pairs, and nets without some of their points; linked rows."""

import unittest

from pointrows.cubics import link_row, net_less
from pointrows.errors import (BoxTooGreat, InvalidForm, InvalidLines, InvalidMany, InvalidOthers, InvalidPositions,
                              InvalidRow, InvalidSpots, NoBox, NotApart, TooMany)
from pointrows.forms import Form, letter_forms
from pointrows.left import rest, rest_row
from pointrows.nets import meets, net, net_pair
from pointrows.pairs import is_pair
from pointrows.points import Spots
from pointrows.possible import box, is_row
from pointrows.rows import row
from pointrows.tables import form_moved, moved
from pointrows.verdicts import is_all, pair
from tests.helpers import (NO_COUNTS, NO_FORMS, NO_INTEGERS, NO_LINES, NO_SPOTS, cross_by_hand, draw_table, draws,
                           look_at_parameters, no_position_lists, refused, told_twice)
from tests.samples import SAMPLES
from tests.test_possible import NO_ROWS, ROWS_BY_HAND

X, Y, Z = letter_forms()
SQUARE = Spots([(0, 0, 1), (0, 1, 1), (1, 0, 1), (1, 1, 1)])
NO_LISTS = [value for value in NO_INTEGERS if not isinstance(value, (list, tuple))] + [0, 7, X, {0: X}, "xy", [], ()]
NO_LISTS += [[X] * 9, (X,) * 9, [None] * 9]
TOO_MANY = {"what": "points", "limit": 24}


def ups(many):
    """The lines x = 0, x = z, .."""
    return [X - Z.times(i) for i in range(many)]


def acrosses(many):
    """The lines y = 0, y = z, .."""
    return [Y - Z.times(i) for i in range(many)]


def by_hand(line, other):
    """The numbers of the point of both lines."""
    one, two = [[form.terms().get(triple, 0) for triple in ((1, 0, 0), (0, 1, 0), (0, 0, 1))] for form in (line, other)]
    return cross_by_hand(one, two)


def multiplied(forms):
    """The product."""
    found = Form(0, {(0, 0, 0): 1})
    for form in forms:
        found = found * form
    return found


class Nets(unittest.TestCase):

    def look(self, lines, others):
        """The net and its pair, by hand."""
        spots, (first, second) = net(lines, others), net_pair(lines, others)
        self.assertEqual(spots, Spots([by_hand(line, other) for line in lines for other in others]))
        self.assertEqual([first, second], [multiplied(lines), multiplied(others)])
        self.assertIs(type(net_pair(lines, others)), tuple)
        self.assertIs(is_pair(spots, (first, second)), True)
        self.assertIs(meets(first, second, spots), True)
        return spots

    def test_grids(self):
        for one, two in ((1, 1), (1, 8), (8, 1), (2, 3), (3, 2), (3, 3), (4, 6), (6, 4), (8, 3), (3, 8), (5, 4)):
            spots = self.look(ups(one), tuple(acrosses(two)))
            self.assertEqual(spots, Spots([(i, j, 1) for i in range(one) for j in range(two)]))
        self.assertEqual(net([X, X - Z], (Y, Y - Z)), SQUARE)
        self.assertEqual(net([X], [Y]).points(), [(0, 0, 1)])

    def test_lines_that_are_moved(self):
        source = draws(821)
        for one, two in ((2, 2), (3, 4), (3, 3), (2, 5)):
            for size in (4, 999999):
                table = draw_table(source, size)
                lines = [form_moved(line, table) for line in ups(one)]
                others = [form_moved(line, table).times(-3) for line in acrosses(two)]
                spots = self.look(lines, others)
                self.assertEqual(spots, moved(net(ups(one), acrosses(two)), table))
                self.assertIs(is_all(spots), True)
                self.assertIs(meets(*pair(spots), spots), True)

    def test_drawn_lines(self):
        source, looked_at = draws(822), 0
        while looked_at < 12:
            lines = [Form(1, {(1, 0, 0): source.randint(1, 9), (0, 1, 0): source.randint(1, 9),
                              (0, 0, 1): source.randint(1, 9)}) for _ in range(source.randint(2, 7))]
            many = source.randint(1, len(lines) - 1)
            points = [by_hand(line, other) for line in lines[:many] for other in lines[many:]]
            apart = all(any(point) for point in points)
            apart = apart and all(any(cross_by_hand(points[i], points[j])) for i in range(len(points)) for j in range(i))
            if apart:
                self.look(lines[:many], lines[many:])
                looked_at += 1
            else:
                refused(self, NotApart, {}, net, lines[:many], lines[many:])

    def test_not_apart(self):
        for lines, others in (
            ([X, X], [Y]), ([X], [Y, Y]), ([X, Y], [Y, Z]), ([X], [X]), ([X], [X.times(-5)]), ([X, X.times(2)], [Y]),
            ([X], [Y, Y.times(-1)]), ([X, Y], [X - Y, Z]), ([X, Y], [X + Y]), ([X, Y, Z], [X - Y]), ([X, Y, Z], [Z, X]),
            ([X] * 8, [Y] * 8), (ups(8), acrosses(7) + [X]), (ups(8) , acrosses(7) + [Y]),
        ):
            for function in (net, net_pair):
                refused(self, NotApart, {}, function, lines, others)
            refused(self, NotApart, {}, net_less, lines, others, [])

    def test_too_many(self):
        for one, two in ((5, 5), (8, 8), (7, 4), (4, 7), (8, 4)):
            for function in (net, net_pair):
                refused(self, TooMany, TOO_MANY, function, ups(one), acrosses(two))
            refused(self, TooMany, TOO_MANY, net_less, ups(one), acrosses(two), list(range(one * two - 1)))
            refused(self, TooMany, TOO_MANY, net_less, ups(one), acrosses(two), [])

    def test_wrong_lines(self):
        for name, error, function, behind in (("lines", InvalidLines, net, {}), ("others", InvalidOthers, net, {}),
                                              ("lines", InvalidLines, net_pair, {}), ("others", InvalidOthers, net_pair, {}),
                                              ("lines", InvalidLines, net_less, {"positions": []}),
                                              ("others", InvalidOthers, net_less, {"positions": []})):
            good = {"lines": [X, X - Z], "others": [Y, Y - Z], **behind}
            for value in NO_LISTS:
                refused(self, error, {"position": None}, function, **{**good, name: value})
                refused(self, error, {"position": None}, function, *list({**good, name: value}.values()))
            for value in NO_LINES:
                refused(self, error, {"position": 0}, function, **{**good, name: [value]})
                refused(self, error, {"position": 2}, function, **{**good, name: (X, Y, value, Z, value)})
                refused(self, error, {"position": 7}, function, *list({**good, name: [X] * 7 + [value]}.values()))

    def test_sequence_of_errors(self):
        for function in (net, net_pair):
            refused(self, InvalidLines, {"position": None}, function, [], [None])
            refused(self, InvalidLines, {"position": 1}, function, [X, None], None)
            refused(self, InvalidOthers, {"position": 0}, function, [X, X], [None])
            refused(self, InvalidOthers, {"position": None}, function, [X, X], [])
            refused(self, NotApart, {}, function, [X] * 5, acrosses(5))
        refused(self, InvalidLines, {"position": 0}, net_less, [None], [None], None)
        refused(self, InvalidOthers, {"position": 0}, net_less, [X], [None], None)
        refused(self, InvalidPositions, {"value": None}, net_less, [X, X], [Y], None)
        refused(self, InvalidPositions, {"value": [25]}, net_less, ups(5), acrosses(5), [25])
        refused(self, NotApart, {}, net_less, [X, X], [Y], [0])

    def test_twice(self):
        for lines, others in (([X, X - Z], (Y, Y - Z)), ((X,), [Y, Z])):
            told_twice(self, net, lines, others)
            told_twice(self, net_pair, lines, others)
            told_twice(self, net_less, lines, others, [1])


class Meets(unittest.TestCase):

    def test_some(self):
        self.assertIs(meets(X * X - X * Z, Y * Y - Y * Z, SQUARE), True)
        self.assertIs(meets(Y * Y - Y * Z, X * X - X * Z, SQUARE), True)
        self.assertIs(meets(spots=SQUARE, other=Y * Y - Y * Z, form=X * X - X * Z), True)
        for form, other in ((X, Y), (X * X - X * Z, X * X - X * Z), (Form(2, {}), Y * Y - Y * Z), (Form(2, {}), Form(2, {})),
                            (X * X - X * Z, Y * Y - Z * Z), (Form(0, {}), Form(0, {})), (Form(0, {(0, 0, 0): 4}), X),
                            ((X * X - X * Z) * Y, Y * Y - Y * Z), (X * Y, X * Z)):
            self.assertIs(meets(form, other, SQUARE), False)
        self.assertIs(meets(X, Y, Spots([(0, 0, 1)])), True)
        self.assertIs(meets(Y - Z.times(3), multiplied(ups(10)), SAMPLES["line of ten"]), True)

    def test_parameters(self):
        conics = (X * X - X * Z, Y * Y - Y * Z)
        look_at_parameters(self, meets, [("form", conics[0], InvalidForm, NO_FORMS), ("other", conics[1], InvalidForm, NO_FORMS),
                                         ("spots", SQUARE, InvalidSpots, NO_SPOTS)])
        told_twice(self, meets, conics[0], conics[1], SQUARE)
        told_twice(self, meets, X, Y, SQUARE)


class NetsLess(unittest.TestCase):

    def test_rows(self):
        source = draws(831)
        for one, two in ((2, 2), (3, 3), (2, 5), (4, 4), (4, 6), (3, 5)):
            spots = net(ups(one), acrosses(two))
            for many in range(0, one * two, 3):
                positions = source.sample(range(one * two), many)
                left = net_less(ups(one), acrosses(two), positions)
                wanted = [point for at, point in enumerate(spots.points()) if at not in positions]
                self.assertEqual(left.points(), wanted)
                self.assertEqual(left, rest(spots, positions))
                self.assertEqual(row(left), rest_row(spots, positions))
        self.assertEqual(net_less([X, X - Z], [Y, Y - Z], [3]).points(), [(0, 0, 1), (0, 1, 1), (1, 0, 1)])
        self.assertEqual(net_less(positions=(), others=(Y,), lines=(X,)), Spots([(0, 0, 1)]))
        # No row is looked at, so the end may be above 8.
        self.assertEqual(net_less(ups(3), acrosses(8), [0]).size, 23)

    def test_wrong_positions(self):
        for value in no_position_lists(4):
            refused(self, InvalidPositions, {"value": value}, net_less, [X, X - Z], [Y, Y - Z], value)
            refused(self, InvalidPositions, {"value": value}, net_less, positions=value, others=[Y, Y - Z],
                    lines=(X, X - Z))
        self.assertEqual(net_less([X, X - Z], [Y, Y - Z], (2, 0, 1)).points(), [(1, 1, 1)])


def link_by_hand(told, first, second):
    """The link by the sum that the document tells, None without one."""
    whole = [len([i for i in range(first) if 0 <= t - i < second]) for t in range(first + second - 1)]
    last = first + second - 2
    if len(told) > len(whole):
        return None
    less = [whole[t] - (told[last - t] if last - t < len(told) else 0) for t in range(last + 1)]
    while less and less[-1] == 0:
        less.pop()
    return less if less and min(less) > 0 and is_row(less) else None


class Links(unittest.TestCase):

    def test_all(self):
        links = 0
        for told in ROWS_BY_HAND:
            for first, second in ((1, 1), (1, 2), (2, 2), (3, 2), (2, 5), (3, 3), (4, 4), (6, 4), (1, 9), (4, 5), (8, 2)):
                link = link_by_hand(told, first, second)
                if link is None:
                    refused(self, NoBox, {}, link_row, told, first, second)
                else:
                    self.assertEqual(link_row(told, first, second), link)
                    self.assertIs(type(link_row(tuple(told), first, second)), list)
                    self.assertEqual(link_row(link, second, first), told)
                    links += 1
        self.assertGreater(links, 100)

    def test_some(self):
        self.assertEqual([link_row([1, 2, 1], 2, 3), link_row([1, 1], 2, 2)], [[1, 1], [1, 1]])
        refused(self, NoBox, {}, link_row, [1, 2, 1], 2, 2)
        refused(self, NoBox, {}, link_row, [1, 2, 2, 1], 2, 2)
        refused(self, NoBox, {}, link_row, [1, 2, 2], 2, 2)
        refused(self, NoBox, {}, link_row, [1, 1, 1, 1], 2, 3)
        self.assertEqual(link_row([1, 2, 3, 2], 3, 3), [1])
        self.assertEqual(link_row([1], 3, 3), [1, 2, 3, 2])
        self.assertEqual(link_row(second=3, row=[1, 2, 3, 2, 1][:2] + [1], first=3), [1, 2, 2])

    def test_parameters(self):
        sides = NO_COUNTS + [0]
        look_at_parameters(self, link_row, [("row", [1, 2, 1], InvalidRow, NO_ROWS), ("first", 2, InvalidMany, sides),
                                            ("second", 3, InvalidMany, sides)])
        for first, second in ((5, 5), (1, 10), (10, 1), (24, 1), (2, 9), (10 ** 29, 1), (3, 8)):
            self.assertTrue(first * second > 24 or first + second > 10)
            refused(self, BoxTooGreat, {}, link_row, [1, 2, 1], first, second)
        told_twice(self, link_row, [1, 2, 1], 2, 3)
        told_twice(self, link_row, (1, 2, 1), 3, 3)
        self.assertEqual(box(2, 3), [1, 2, 2, 1])


if __name__ == "__main__":
    unittest.main()
