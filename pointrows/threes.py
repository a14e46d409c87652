"""Threes of INTEGERS, and tables of three of them: what points, lines and tables have in common."""

from pointrows.basics import is_integer, is_list
from pointrows.plain import plain


def is_three(value):
    """Whether any value is a list of three INTEGERS."""
    return is_list(value) and len(value) == 3 and all([is_integer(number) for number in value])


def is_three_by_three(value):
    """Whether any value is a list of three lists of three INTEGERS whose determinant is not 0: a table."""
    if not is_list(value) or len(value) != 3 or not all([is_three(row) for row in value]):
        return False
    return determinant(value) != 0


def dot(numbers, others):
    """The sum of the numbers, each times the other one at its place."""
    return sum([number * other for number, other in zip(numbers, others)])


def crossed(one, other):
    """Three numbers that come to 0 with both threes; all 0 if one three is a number times the other."""
    a, b, c = one
    d, e, f = other
    return [b * f - c * e, c * d - a * f, a * e - b * d]


def determinant(rows):
    """The determinant of three threes."""
    return dot(rows[0], crossed(rows[1], rows[2]))


def columns(rows):
    """The list of the columns of three threes."""
    return [list(column) for column in zip(rows[0], rows[1], rows[2])]


def undone(rows):
    """Three rows that, times the rows of a table, come to its determinant in the corners' line and to 0 elsewhere."""
    first, second, third = rows
    return columns([crossed(second, third), crossed(third, first), crossed(first, second)])


def plain_table(rows):
    """The plain table that leads all points as the rows of a table do."""
    numbers = plain([number for row in rows for number in row])
    return (tuple(numbers[0:3]), tuple(numbers[3:6]), tuple(numbers[6:9]))
