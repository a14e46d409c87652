"""The errors of parameters that hang on the value alone."""

from pointrows.basics import is_count, is_integer
from pointrows.errors import InvalidDegree, InvalidNumber, InvalidPosition, InvalidTable
from pointrows.threes import is_three_by_three


def check_degree(degree, most):
    """InvalidDegree unless a COUNT that is at most the greatest degree."""
    if not is_count(degree) or degree > most:
        raise InvalidDegree(degree)


def check_number(number):
    """InvalidNumber unless an INTEGER."""
    if not is_integer(number):
        raise InvalidNumber(number)


def check_position(position, size):
    """InvalidPosition unless a position among as many as the size."""
    if not is_count(position) or position >= size:
        raise InvalidPosition(position)


def check_table(table):
    """InvalidTable unless a table."""
    if not is_three_by_three(table):
        raise InvalidTable(table)
