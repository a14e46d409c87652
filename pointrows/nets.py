"""Nets: the points in which each of some lines meets each of some others."""

from pointrows.basics import is_list
from pointrows.errors import InvalidLines, InvalidOthers, NotApart, SameLine, TooMany
from pointrows.forms import check_form
from pointrows.lines import is_line, meet
from pointrows.pairs import is_pair
from pointrows.points import MOST_POINTS, Spots, check_spots

MOST_LINES = 8


def net(lines, others):
    """The Spots of the net, by the first lines, then by the others."""
    check_lines(lines, others)
    return Spots(net_points(lines, others))


def net_pair(lines, others):
    """The tuple of the product of the lines and that of the others, a pair of the net."""
    check_lines(lines, others)
    net_points(lines, others)
    return (multiplied_out(lines), multiplied_out(others))


def meets(form, other, spots):
    """Whether both forms are a pair of the spots."""
    check_form(form)
    check_form(other)
    check_spots(spots)
    return is_pair(spots, (form, other))


def check_lines(lines, others):
    """InvalidLines and InvalidOthers unless both are lists of lines."""
    if not has_lines(lines):
        raise InvalidLines(None)
    if first_no_line(lines) is not None:
        raise InvalidLines(first_no_line(lines))
    if not has_lines(others):
        raise InvalidOthers(None)
    if first_no_line(others) is not None:
        raise InvalidOthers(first_no_line(others))


def has_lines(value):
    """Whether any value is a list of as many elements as there may be lines."""
    return is_list(value) and 1 <= len(value) <= MOST_LINES


def first_no_line(values):
    """The position of the first one of the values that is no line; None if all are lines."""
    for position, value in enumerate(values):
        if not is_line(value):
            return position
    return None


def net_points(lines, others):
    """The list of the told points of the net of these lines; NotApart unless they are unlike, TooMany if too many."""
    points = [meeting(line, other) for line in lines for other in others]
    if None in points or len(set(points)) < len(points):
        raise NotApart()
    if len(points) > MOST_POINTS:
        raise TooMany("points", MOST_POINTS)
    return points


def meeting(line, other):
    """The told point in which both lines meet; None if they are the same, up to a number."""
    try:
        return meet(line, other)
    except SameLine:
        return None


def multiplied_out(forms):
    """The product of the forms."""
    total = forms[0]
    for form in forms[1:]:
        total = total * form
    return total
