"""Nets without some of their points, and rows that are linked in a box."""

from pointrows.errors import NoBox
from pointrows.left import check_positions, others_than
from pointrows.links import linked
from pointrows.nets import check_lines, net_points
from pointrows.points import Spots
from pointrows.possible import box, check_row, is_row


def net_less(lines, others, positions):
    """The Spots of the net without those at the positions, in their sequence."""
    check_lines(lines, others)
    check_positions(positions, len(lines) * len(others))
    return Spots(others_than(net_points(lines, others), positions))


def link_row(row, first, second):
    """The link of the row in the box of both, a list."""
    check_row(row)
    whole = box(first, second)
    if len(row) > len(whole):
        raise NoBox()
    left = linked(whole, row)
    if not is_row(left):
        raise NoBox()
    return left
