"""What kinds values are."""

import unittest

from pointrows.basics import is_count, is_integer, is_list
from pointrows.forms import Form, is_triple
from pointrows.points import Spots
from tests.helpers import NO_INTEGERS, NO_POINTS, Odd, told_twice

OTHERS = NO_INTEGERS + NO_POINTS + [Form(1, {}), Spots([(1, 0, 0)]), Form, range(3), zip(), "abc", frozenset()]


class Kinds(unittest.TestCase):

    def told(self, function, value, wanted):
        self.assertIs(function(value), wanted, value)
        self.assertIs(function(value=value), wanted, value)

    def test_integers(self):
        for value in (0, 1, -1, 7, 10 ** 600, -(10 ** 600)):
            self.told(is_integer, value, True)
        for value in NO_INTEGERS + [Form(1, {}), (1, 2, 3)]:
            self.told(is_integer, value, False)

    def test_counts(self):
        for value in (0, 1, 7, 10 ** 600):
            self.told(is_count, value, True)
        for value in NO_INTEGERS + [-1, -7, -(10 ** 600), Form(1, {}), (1, 2, 3)]:
            self.told(is_count, value, False)

    def test_lists(self):
        for value in ([], (), [1], (1, 2), [None], [[]], ((),)):
            self.told(is_list, value, True)
        for value in OTHERS:
            if not isinstance(value, (list, tuple)):
                self.told(is_list, value, False)

    def test_triples(self):
        for value in ((0, 0, 0), (1, 2, 3), (13, 0, 0), (10 ** 29, 0, 1)):
            self.told(is_triple, value, True)
        for value in [[0, 0, 0], [1, 2, 3], (1, 2), (1, 2, 3, 4), (True, 0, 0), (1, False, 0), (0, 0, True), (1, -1, 0),
                      ("1", 0, 0), (0, None, 0), ((0,), 0, 0), (0, 0, Odd()), {0, 1, 2}, "123", 3, {}]:
            self.told(is_triple, value, False)
        for value in NO_INTEGERS:
            self.told(is_triple, value, False)

    def test_nothing_changes(self):
        for function in (is_integer, is_count, is_list, is_triple):
            told_twice(self, function, [1, 2, [3]])


if __name__ == "__main__":
    unittest.main()
