"""Lines: through two points, where two meet, and which pass three of some points or more."""

from pointrows.errors import InvalidLine, SameLine, SamePoint
from pointrows.forms import Form, check_form
from pointrows.points import check_spots, told_point
from pointrows.terms import LETTER_TRIPLES, terms_of
from pointrows.threes import crossed, determinant


def line_through(point, other):
    """The plain line that passes both points."""
    one, two = told_point(point), told_point(other)
    if one == two:
        raise SamePoint()
    return Form(1, terms_of(LETTER_TRIPLES, told_point(crossed(one, two))))


def meet(line, other):
    """The told point that both lines pass."""
    numbers, others = line_numbers(line), line_numbers(other)
    point = crossed(numbers, others)
    if point == [0, 0, 0]:
        raise SameLine()
    return told_point(point)


def is_line(value):
    """Whether any value is a line: a form of degree 1 that is not nought."""
    return isinstance(value, Form) and value.degree == 1 and not value.is_nought


def line_numbers(line):
    """The list of the three numbers of a line; InvalidLine unless it is one."""
    if not is_line(line):
        raise InvalidLine(line)
    terms = line.terms()
    return [terms.get(triple, 0) for triple in LETTER_TRIPLES]


def passed(spots, form):
    """The list of the positions of the points that the form passes, rising."""
    check_spots(spots)
    check_form(form)
    return [position for position, point in enumerate(spots.points()) if form.worth(point) == 0]


def lines_of(spots):
    """The sorted list of the lists of positions, rising, of three points of a line or more, all that it passes."""
    check_spots(spots)
    points = spots.points()
    found = []
    for one in range(len(points)):
        for two in range(one + 1, len(points)):
            on_line = [at for at, point in enumerate(points) if determinant([points[one], points[two], point]) == 0]
            # Each line is told by its first two points only; these rise, so the lists are sorted.
            if len(on_line) > 2 and on_line[:2] == [one, two]:
                found.append(on_line)
    return found
