"""Lists of INTEGERS that come to 0 with rows: all of them are sums of the told ones, and these are short."""

import unittest

from pointrows.elimination import independent_columns, rank, solved
from pointrows.kernels import common_sum, divisible, greatest, kernel, shortest, stepped_kernel
from pointrows.short import LEAST_BITS, MOST_BITS, bits_of, shortened
from tests.helpers import draws, rank_by_hand

SMALL_PRIMES = (2, 3, 5, 7, 11, 13, 101)


def rank_modulo(rows, prime):
    """How many rows are independent modulo the prime."""
    rows, found = [[number % prime for number in row] for row in rows], 0
    for column in range(len(rows[0]) if rows else 0):
        pivots = [row for row in rows if row[column]]
        if pivots:
            pivot, found = pivots[0], found + 1
            times = pow(pivot[column], -1, prime)
            rows = [[(number - row[column] * times * other) % prime for number, other in zip(row, pivot)]
                    for row in rows if row is not pivot]
    return found


def draw_rows(source, many, width, size):
    """Drawn rows, of which the last one is a sum of two others if there are some."""
    rows = [[source.randint(-size, size) for _ in range(width)] for _ in range(many)]
    if many > 2:
        rows[-1] = [one + 2 * other for one, other in zip(rows[0], rows[1])]
    return rows


class Kernels(unittest.TestCase):

    def look(self, rows, width, told):
        """The lists come to 0 with the rows, are independent, and no sum of them can be divided."""
        self.assertEqual(len(told), width - rank_by_hand(rows))
        for numbers in told:
            self.assertEqual(len(numbers), width)
            for row in rows:
                self.assertEqual(sum(one * other for one, other in zip(row, numbers)), 0)
        self.assertEqual(rank_by_hand(told), len(told))
        for prime in SMALL_PRIMES:
            self.assertEqual(rank_modulo(told, prime), len(told))

    def test_drawn_rows(self):
        source = draws(601)
        for many, width, size in ((1, 1, 3), (1, 4, 9), (2, 6, 12), (3, 5, 1), (4, 9, 60), (5, 6, 10 ** 9),
                                  (6, 11, 30), (9, 10, 10 ** 40), (3, 9, 10 ** 90), (9, 6, 5)):
            for _ in range(6):
                rows = draw_rows(source, many, width, size)
                self.look(rows, width, stepped_kernel(rows, width))
                self.look(rows, width, kernel(rows, width))

    def test_rows_with_common_factors(self):
        source = draws(602)
        for factor in (6, 8, 30, 2 ** 20 * 3 ** 9, 10 ** 50):
            for many, width in ((2, 5), (3, 7), (4, 6)):
                rows = draw_rows(source, many, width, 40)
                rows = [[number * factor if place % 2 else number for place, number in enumerate(row)] for row in rows]
                self.look(rows, width, stepped_kernel(rows, width))
                self.look(rows, width, kernel(rows, width))

    def test_short_ones_that_are_hidden(self):
        source = draws(603)
        for width, many, size in ((4, 2, 10 ** 60), (6, 3, 10 ** 45), (8, 2, 10 ** 99), (12, 9, 10 ** 80)):
            hidden = [[source.randint(-9, 9) for _ in range(width)] for _ in range(width - many)]
            rows = [self.upright([source.randint(-size, size) for _ in range(width)], hidden) for _ in range(many)]
            told = kernel(rows, width)
            self.look(rows, width, told)
            self.assertEqual(rank(rows), many)
            self.assertLess(bits_of(told), 150)

    def upright(self, numbers, lists):
        """A multiple of the numbers less multiples of the lists that comes to 0 with all the lists."""
        flat = []
        for own in lists:
            for other in flat:
                own = self.less(own, other)
            flat.append(own)
        for other in flat:
            numbers = self.less(numbers, other)
        return numbers

    def less(self, numbers, other):
        """A multiple of the numbers less one of the other list that comes to 0 with it."""
        by = sum(number * number for number in other)
        worth = sum(one * number for one, number in zip(numbers, other))
        return [by * one - worth * number for one, number in zip(numbers, other)]

    def test_corners(self):
        self.assertEqual([kernel([], 2), kernel([[0, 0]], 2), kernel([[1, 0], [0, 1]], 2), kernel([], 0)],
                         [[[1, 0], [0, 1]], [[1, 0], [0, 1]], [], []])
        self.assertEqual(kernel([[6, 10, 15]], 3), kernel([[12, 20, 30], [-6, -10, -15]], 3))

    def test_the_same_again(self):
        rows = draw_rows(draws(604), 5, 9, 10 ** 60)
        copied = [list(row) for row in rows]
        self.assertEqual(kernel(rows, 9), kernel(rows, 9))
        self.assertEqual(rows, copied)


class Short(unittest.TestCase):

    def test_lists_get_short(self):
        source = draws(611)
        for many, bits in ((2, 400), (3, 900), (4, 1500), (6, 3000), (9, 3000)):
            # The lists of this kind are all that come with the drawn numbers to multiples of the great one.
            modulus = source.getrandbits(bits) | 1 << bits
            lists = [[modulus] + [0] * (many - 1)]
            for at in range(1, many):
                lists.append([source.randrange(modulus)] + [1 if place == at else 0 for place in range(1, many)])
            told = shortened(lists)
            self.assertEqual(len(told), many)
            self.assertEqual(rank_by_hand(told), many)
            for numbers in told:
                own = numbers[0] - sum(number * row[0] for number, row in zip(numbers[1:], lists[1:]))
                self.assertEqual(own % modulus, 0)
            self.assertLess(bits_of(told), max(LEAST_BITS, bits // min(many, 3) + 20))
            self.assertLess(bits_of(told), MOST_BITS)

    def test_all_in_the_core_if_they_stay_long(self):
        source = draws(612)
        modulus = source.getrandbits(9000) | 1 << 9000
        for many in (2, 3, 4):
            lists = [[modulus] + [0] * (many - 1)]
            for at in range(1, many):
                lists.append([source.randrange(modulus)] + [1 if place == at else 0 for place in range(1, many)])
            self.assertLess(bits_of(shortened(lists)), 9000 // many + 20)

    def test_shortest(self):
        self.assertEqual(shortest([[5, 0], [-3, 3], [0, -4], [3, 1]]), [-3, 3])
        self.assertEqual([greatest([-7, 3]), greatest([0])], [7, 0])


class Solved(unittest.TestCase):

    def test_solved(self):
        source = draws(621)
        for many, width, size in ((3, 5, 4), (5, 5, 1), (7, 4, 3), (4, 8, 10 ** 30)):
            for _ in range(8):
                rows = draw_rows(source, many, width, size)
                places, done = solved(rows, width)
                self.assertEqual(len(places), rank_by_hand(rows))
                self.assertEqual(places, sorted(places))
                self.assertEqual(independent_columns(rows), places)
                for place, row in zip(places, done):
                    self.assertEqual([row[other] for other in places if other != place], [0] * (len(places) - 1))
                    self.assertGreater(row[place], 0)
                    self.assertEqual(row[:place], [0] * place)
                self.assertEqual(rank_by_hand(rows + done), len(places))

    def test_common_sum(self):
        source = draws(622)
        for _ in range(50):
            number, other = source.randint(1, 10 ** 30), source.randint(0, 10 ** 30)
            shared, times, other_times = common_sum(number, other)
            self.assertEqual(times * number + other_times * other, shared)
            self.assertEqual([number % shared, other % shared], [0, 0])
        self.assertEqual([common_sum(5, 0), common_sum(1, 7)[0]], [(5, 1, 0), 1])

    def test_divisible(self):
        told = divisible([[1, 0], [0, 1]], [2, 3], 6)
        self.assertEqual(told, [[3, 0], [0, 2]])
        self.assertEqual(divisible([[1, 0], [0, 1]], [6, -12], 6), [[1, 0], [0, 1]])


if __name__ == "__main__":
    unittest.main()
