"""Independent rows of INTEGERS, and what comes to 0 with all of them; reckoned without fractions."""

from heapq import heapify, heappop, heappush

from pointrows.threes import dot

# Rows that are independent modulo a prime are so by fractions, too; the other way round only mostly.
PRIME = 2305843009213693951


def rank(rows):
    """How many of the rows are independent: none of these is a sum of multiples, by fractions, of others."""
    most = min(len(rows), len(rows[0])) if rows else 0
    if rank_by(rows, PRIME) == most:
        return most
    return rank_by(rows, 0)


def rank_by(rows, prime):
    """How many of the rows are independent modulo the prime; by fractions if it is 0."""
    left, last, found = [list(row) for row in rows], 1, 0
    while left and left[0]:
        first = first_place(left, prime)
        if first is None:
            left = [row[1:] for row in left]
        else:
            pivot = left[first]
            left = [cleared(row, pivot, last, prime) for row in left[:first] + left[first + 1:]]
            last = pivot[0]
            found += 1
    return found


def first_place(rows, prime):
    """The place of the first row whose first number is not 0, None if there is none."""
    for place, row in enumerate(rows):
        if (row[0] if prime == 0 else row[0] % prime) != 0:
            return place
    return None


def cleared(row, pivot, last, prime):
    """A multiple of the row, less one of the pivot, without its first number, which is 0."""
    numbers = [number * pivot[0] - other * row[0] for number, other in zip(row[1:], pivot[1:])]
    if prime == 0:
        # The first number of the pivot of the step before divides all of them (Bareiss 1968).
        return [number // last for number in numbers]
    return [number % prime for number in numbers]


def kernel(rows, width):
    """Independent lists of as many INTEGERS as the width, of which all that come to 0 with each row are sums."""
    found = [[1 if place == at else 0 for place in range(width)] for at in range(width)]
    for row in rows:
        found = vanishing(found, row)
    return found


def vanishing(lists, row):
    """Independent sums of multiples of the independent lists, as many as can be, that come to 0 with the row.

    Multiples by INTEGERS alone are taken off, the list that comes to most with the row less the one that comes to
    most of the others, till all but one come to 0: so the numbers stay much shorter than with fractions.
    """
    worths = [dot(numbers, row) for numbers in lists]
    found = [numbers for numbers, worth in zip(lists, worths) if worth == 0]
    queue = [(-abs(worth), signed(numbers, worth)) for numbers, worth in zip(lists, worths) if worth != 0]
    heapify(queue)
    while len(queue) > 1:
        worth, numbers = heappop(queue)
        other_worth, others = queue[0]
        times = (2 * worth + other_worth) // (2 * other_worth)
        worth = worth - times * other_worth
        numbers = [number - times * other for number, other in zip(numbers, others)]
        if worth == 0:
            found.append(numbers)
        else:
            heappush(queue, (-abs(worth), signed(numbers, -worth)))
    return found


def signed(numbers, sign):
    """The numbers, taken times -1 if the sign is below 0."""
    return [-number for number in numbers] if sign < 0 else numbers
