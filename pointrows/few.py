"""Points that fail to make independent conditions, and the line or the conic that holds too many of few ones."""

from pointrows.basics import is_count, is_list
from pointrows.conditions import check_spots_degree, conditions, form_size, forms_through
from pointrows.errors import InvalidDegree, NotFew
from pointrows.forms import Form
from pointrows.lines import line_through, lines_of, passed
from pointrows.points import Spots
from pointrows.sums import parted_positions

CURVE_DEGREES = {"line": 1, "conic": 2}


def fails(spots, degree):
    """Whether the points' conditions on forms of the degree are not all independent."""
    return conditions(spots, degree) < spots.size


def why_fails(spots, degree):
    """A why, its positions rising; None if the points do not fail at the degree."""
    check_why_degree(spots, degree)
    if not is_few(spots, degree):
        raise NotFew()
    if not fails(spots, degree):
        return None
    whys = [line_why(spots, degree, on_line) for on_line in lines_of(spots) if len(on_line) >= too_many("line", degree)]
    return min(whys, key=size_of) if whys else conic_why(spots, degree)


def is_few(spots, degree):
    """Whether the points are so few that a line or a conic holds too many of them if they fail at the degree."""
    return spots.size <= max(3, 3 * degree - 1)


def check_why_degree(spots, degree):
    """InvalidSpots unless Spots, InvalidDegree unless a COUNT from 1 to 9."""
    check_spots_degree(spots, degree)
    if degree == 0:
        raise InvalidDegree(degree)


def too_many(word, degree):
    """How many points of a line, or of a conic, have conditions on forms of the degree that hang together."""
    return CURVE_DEGREES[word] * degree + 2


def line_why(spots, degree, on_line):
    """The why of the line with the points at these positions, too many of them."""
    points = spots.points()
    line = line_through(points[on_line[0]], points[on_line[1]])
    return ("line", line, on_line[:too_many("line", degree)])


def size_of(why):
    """The greatest number of the form of the why."""
    return form_size(why[1])


def conic_why(spots, degree):
    """The why of the conic that holds too many of the points, where no line does.

    The few points that hang together are then all of this conic: any two sums, each one of too many points of a
    conic, would have so many points in common that both conics are the same.
    """
    parted = parted_positions(spots, degree)
    points = [point for position, point in enumerate(spots.points()) if position not in parted]
    conic = forms_through(Spots(points), 2)[0]
    return ("conic", conic, passed(spots, conic)[:too_many("conic", degree)])


def is_why_fails(spots, degree, value):
    """Whether any value is a why of the spots at the degree."""
    check_why_degree(spots, degree)
    if not isinstance(value, tuple) or len(value) != 3:
        return False
    word, form, positions = value
    if not isinstance(word, str) or word not in CURVE_DEGREES or not is_list(positions):
        return False
    if not isinstance(form, Form) or form.degree != CURVE_DEGREES[word] or form.is_nought:
        return False
    if len(positions) != too_many(word, degree) or not all([is_count(position) for position in positions]):
        return False
    on_form = passed(spots, form)
    return len(set(positions)) == len(positions) and all([position in on_form for position in positions])
