"""The row of some points: how many new conditions they make, degree by degree."""

from pointrows.conditions import conditions
from pointrows.errors import TooMany
from pointrows.points import check_spots
from pointrows.terms import triples_of

MOST_END = 8


def row(spots):
    """The row, a list."""
    return numbers_of(spots)


def numbers_of(spots):
    """The row, by a name that is free where a parameter is called row."""
    counts = rising_counts(spots)
    return [count - ahead for count, ahead in zip(counts, [0] + counts)]


def end(spots):
    """The last place of the row."""
    return len(rising_counts(spots)) - 1


def rising_counts(spots):
    """The list of h for the degrees from 0 to the first one at which it is the number of points."""
    check_spots(spots)
    counts = [conditions(spots, 0)]
    while counts[-1] < spots.size:
        if len(counts) > MOST_END:
            raise TooMany("degree", MOST_END)
        counts.append(conditions(spots, len(counts)))
    return counts


def top(spots):
    """The least degree of a form, not nought, that passes all points."""
    check_spots(spots)
    degree = 0
    while count_through(spots, degree) == 0:
        degree += 1
    return degree


def count_through(spots, degree):
    """How many independent forms of the degree pass all points."""
    many = conditions(spots, degree)
    return len(triples_of(degree)) - many
