"""Stairs: points for each row that can be; and the lengths of a row's steps."""

from pointrows.basics import is_count, is_list
from pointrows.errors import InvalidLengths
from pointrows.points import Spots
from pointrows.possible import MOST_PLACES, MOST_SUM, check_row


def stair(row):
    """The Spots of the stair of the row, sorted by (i + j, j)."""
    check_row(row)
    return Spots([(place - j, j, 1) for place, number in enumerate(row) for j in range(number)])


def lengths(row):
    """For 0, 1, 2, .. as long as there are any, how many places of the row have a number above it."""
    check_row(row)
    return [len([number for number in row if number > least]) for least in range(max(row))]


def row_by(lengths):
    """The row with these lengths."""
    if not is_lengths(lengths):
        raise InvalidLengths(lengths)
    return [number_at(place, lengths) for place in range(lengths[0])]


def is_lengths(value):
    """Whether any value is a list of INTEGERS above 0, each less than the one ahead, within the bounds of a row."""
    if not is_list(value) or len(value) == 0 or not all([is_count(length) and length > 0 for length in value]):
        return False
    if not all([ahead > length for ahead, length in zip(value, value[1:])]):
        return False
    return value[0] <= MOST_PLACES and sum(value) <= MOST_SUM


def number_at(place, steps):
    """Of how many of the steps, each one beginning a place behind the one ahead, the place is one."""
    return len([least for least, length in enumerate(steps) if least <= place < least + length])
