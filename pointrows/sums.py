"""Sums by which points' conditions on forms of a degree come to 0, and points whose conditions are independent."""

from pointrows.basics import is_count, is_integer, is_list
from pointrows.checks import check_degree, check_position
from pointrows.conditions import MOST_CONDITIONS_DEGREE, check_spots_degree, condition_rows, conditions
from pointrows.elimination import independent_columns, rank, solved
from pointrows.kernels import kernel, shortest
from pointrows.points import check_spots
from pointrows.threes import dot


def triple_rows(spots, degree):
    """For each triple of the degree the list of what it comes to at the points, by positions."""
    rows = condition_rows(spots, degree)
    return [list(worths) for worths in zip(*rows)]


def independent(spots, degree):
    """Positions, rising, of as many points as can be whose conditions are independent."""
    check_spots_degree(spots, degree)
    return independent_columns(triple_rows(spots, degree))


def is_independent(spots, degree, value):
    """Whether any value is a list of such positions, rising, as many as can be."""
    many = conditions(spots, degree)
    if not is_rising(value, spots.size) or len(value) != many:
        return False
    rows = condition_rows(spots, degree)
    return rank([rows[position] for position in value]) == many


def is_rising(value, size):
    """Whether any value is a list of rising positions among as many as the size."""
    if not is_list(value) or not all([is_count(position) and position < size for position in value]):
        return False
    return all([ahead < position for ahead, position in zip(value, value[1:])])


def sums(spots, degree):
    """Independent sums, of which all are sums of multiples, short ones."""
    check_spots_degree(spots, degree)
    return kernel(triple_rows(spots, degree), spots.size)


def is_sums(spots, degree, value):
    """Whether any value is a list of such sums as sums tells, as many."""
    check_spots_degree(spots, degree)
    many = spots.size - conditions(spots, degree)
    if not is_list(value) or len(value) != many:
        return False
    return all([is_sum(spots, degree, numbers) for numbers in value]) and rank(value) == many


def is_sum(spots, degree, value):
    """Whether any value is a sum: numbers, not all 0, with which the points' conditions come to 0."""
    check_spots_degree(spots, degree)
    if not is_list(value) or len(value) != spots.size or not all([is_integer(number) for number in value]):
        return False
    return any(value) and all([dot(worths, value) == 0 for worths in triple_rows(spots, degree)])


def comes_of(spots, position, degree):
    """A short sum in which the number at the position is not 0; None if the point is parted from the others."""
    check_spots(spots)
    check_position(position, spots.size)
    check_degree(degree, MOST_CONDITIONS_DEGREE)
    if position in parted_positions(spots, degree):
        return None
    return shortest([numbers for numbers in sums(spots, degree) if numbers[position] != 0])


def parted_positions(spots, degree):
    """The list of the positions, rising, whose number is 0 in all sums: the points that are parted from the others."""
    places, rows = solved(triple_rows(spots, degree), spots.size)
    return [place for place, row in zip(places, rows) if len([number for number in row if number != 0]) == 1]
