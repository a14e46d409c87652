"""All rows that can be with a sum, and how many they are."""

from pointrows.basics import is_count
from pointrows.errors import InvalidMany
from pointrows.possible import MOST_PLACES, MOST_SUM
from pointrows.stairs import row_by


def rows_of(many):
    """The sorted list of all rows that can be with this sum."""
    check_many(many)
    return sorted([row_by(lengths) for lengths in unlike_parts(many, MOST_PLACES)])


def row_count(many):
    """How many rows can be with this sum."""
    return len(rows_of(many))


def partings(many):
    """In how many ways the number is a sum of unlike INTEGERS from 1 to 9."""
    check_many(many)
    return len(unlike_parts(many, MOST_PLACES))


def check_many(many):
    """InvalidMany unless a COUNT from 1 to 24."""
    if not is_count(many) or not 1 <= many <= MOST_SUM:
        raise InvalidMany(many)


def unlike_parts(many, most):
    """The lists of INTEGERS above 0, each less than the one ahead, the first at most the greatest, with this sum."""
    if many == 0:
        return [[]]
    found = []
    for part in range(1, min(many, most) + 1):
        found.extend([[part, *parts] for parts in unlike_parts(many - part, part - 1)])
    return found
