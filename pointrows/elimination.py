"""Independent rows and columns of INTEGERS, and rows solved for some of their places; reckoned without fractions."""

from math import gcd

from pointrows.plain import plain

# Columns that are independent modulo a prime are so by fractions, too; the other way round only mostly.
PRIME = 2305843009213693951


def rank(rows):
    """How many of the rows are independent: none of these is a sum of multiples, by fractions, of others."""
    return len(independent_columns(rows))


def independent_columns(rows):
    """The places, rising, of independent columns of the rows, as many as can be."""
    most = min(len(rows), len(rows[0])) if rows else 0
    places = columns_by(rows, PRIME)
    return places if len(places) == most else columns_by(rows, 0)


def columns_by(rows, prime):
    """The places of the columns that are independent of those ahead modulo the prime; by fractions if it is 0."""
    left, last, places = [list(row) for row in rows], 1, []
    for place in range(len(rows[0]) if rows else 0):
        first = first_place(left, prime)
        if first is None:
            left = [row[1:] for row in left]
        else:
            pivot = left[first]
            left = [cleared(row, pivot, last, prime) for row in left[:first] + left[first + 1:]]
            last = pivot[0]
            places.append(place)
    return places


def first_place(rows, prime):
    """The place of the first row whose first number is not 0, None if there is none."""
    for place, row in enumerate(rows):
        if (row[0] if prime == 0 else row[0] % prime) != 0:
            return place
    return None


def cleared(row, pivot, last, prime):
    """A multiple of the row, less one of the pivot, without its first number, which is 0."""
    numbers = [number * pivot[0] - other * row[0] for number, other in zip(row[1:], pivot[1:])]
    if prime == 0:
        # The first number of the pivot of the step before divides all of them (Bareiss 1968).
        return [number // last for number in numbers]
    return [number % prime for number in numbers]


def solved(rows, width):
    """The places of independent columns, the first ones, and for each one a row with 0 at all the others.

    Just what comes to 0 with all these plain rows does so with all the rows that are passed; and the first number of
    a row that is not 0 is the one at its own place.
    """
    left = plain_ones(rows)
    places, done = [], []
    for place in range(width):
        pivots = [row for row in left if row[place] != 0]
        if pivots:
            pivot = pivots[0]
            behind = [row for row in left if row[place] == 0] + pivots[1:]
            left = plain_ones([without_place(row, pivot, place) for row in behind])
            done = plain_ones([without_place(row, pivot, place) for row in done]) + [pivot]
            places.append(place)
    return places, done


def plain_ones(rows):
    """The rows that are not all 0, plain: divided by their common divisors the numbers stay shorter."""
    return [plain(row) for row in rows if any(row)]


def without_place(row, pivot, place):
    """A multiple of the row, less one of the pivot, with 0 at the place."""
    if row[place] == 0:
        return row
    common = gcd(row[place], pivot[place])
    times, off = pivot[place] // common, row[place] // common
    return [times * number - off * other for number, other in zip(row, pivot)]


def units(many):
    """As many lists as told, of as many numbers: 1 at the list's own place, else 0."""
    return [[1 if place == at else 0 for place in range(many)] for at in range(many)]
