"""Tables: how points, Spots and forms are led from one place of the plane to another one."""

from pointrows.checks import check_table
from pointrows.errors import NotFour
from pointrows.forms import check_form
from pointrows.points import Spots, check_spots, told_point
from pointrows.products import primitive, put_in
from pointrows.threes import columns, determinant, dot, is_three_by_three, plain_table, undone


def is_table(value):
    """Whether any value is a table."""
    return is_three_by_three(value)


def led(table, point):
    """The told point to which the table leads the point."""
    check_table(table)
    told = told_point(point)
    return told_point([dot(row, told) for row in table])


def undone_table(table):
    """The plain table that leads back."""
    check_table(table)
    return plain_table(undone(table))


def behind(table, other):
    """The plain table that leads by the other one first, then by the table."""
    check_table(table)
    check_table(other)
    return plain_table([[dot(row, column) for column in columns(other)] for row in table])


def moved(spots, table):
    """The Spots of the points to which the table leads the points, in the same sequence."""
    check_spots(spots)
    check_table(table)
    return Spots([led(table, point) for point in spots.points()])


def form_moved(form, table):
    """The plain form that passes just where the table leads the points that the form passes."""
    check_form(form)
    check_table(table)
    return primitive(put_in(form, undone_table(table)))


def four_table(spots):
    """The plain table that leads (1, 0, 0), (0, 1, 0), (0, 0, 1) and (1, 1, 1) to the four points."""
    check_spots(spots)
    if spots.size != 4:
        raise NotFour()
    first, second, third, fourth = spots.points()
    # By these numbers the first three points come to the fourth one, times the determinant of the three.
    shares = [
        determinant([fourth, second, third]),
        determinant([first, fourth, third]),
        determinant([first, second, fourth]),
    ]
    if determinant([first, second, third]) == 0 or 0 in shares:
        raise NotFour()
    led_to = [[share * number for number in point] for share, point in zip(shares, (first, second, third))]
    return plain_table(columns(led_to))
