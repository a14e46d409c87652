"""Rows that can be: which lists they are, where others have a fault, and the rows of boxes."""

from pointrows.basics import is_count, is_list
from pointrows.errors import BoxTooGreat, InvalidCounts, InvalidMany, InvalidRow

MOST_PLACES = 9
MOST_SUM = 24


def is_row(value):
    """Whether any value is a row that can be."""
    return is_counts(value) and first_fault(value) is None


def is_counts(value):
    """Whether any value is a list of one or more COUNTS."""
    return is_list(value) and len(value) > 0 and all([is_count(number) for number in value])


def fault(value):
    """The first place at which the list of COUNTS can be no row's, None if it is a row that can be."""
    if not is_counts(value):
        raise InvalidCounts(value)
    return first_fault(value)


def first_fault(counts):
    """The fault of a list of COUNTS."""
    ahead, total = 0, 0
    for place, number in enumerate(counts):
        total += number
        # As long as the row rises, the number ahead is the place itself.
        rises = ahead == place and number == place + 1
        if place == MOST_PLACES or total > MOST_SUM or not (rises or 0 < number <= ahead):
            return place
        ahead = number
    return None


def check_row(row):
    """InvalidRow unless a row that can be."""
    if not is_row(row):
        raise InvalidRow(row)


def mirrored(row):
    """The list of the row's numbers from the other end."""
    check_row(row)
    return list(row)[::-1]


def is_mirrored(row):
    """Whether the row reads the same from the other end."""
    return mirrored(row) == list(row)


def box(first, second):
    """The row of a box of both: 1, 2, .., the lesser one, .., the lesser one, .., 2, 1."""
    check_side(first)
    check_side(second)
    if first * second > MOST_SUM or first + second > MOST_PLACES + 1:
        raise BoxTooGreat()
    places = first + second - 1
    return [min(place + 1, places - place, first, second) for place in range(places)]


def check_side(many):
    """InvalidMany unless a COUNT above 0."""
    if not is_count(many) or many == 0:
        raise InvalidMany(many)


def box_of(row):
    """The tuple of the two numbers, the lesser one first, of whose box it is the row; None if it is of none."""
    # A row that can be and reads the same from both ends is that of a box, and of no other one.
    if not is_mirrored(row):
        return None
    lesser = max(row)
    return (lesser, len(row) + 1 - lesser)
