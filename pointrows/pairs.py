"""Pairs: two forms without a common part, of which some points are all that they have in common."""

from pointrows.forms import Form
from pointrows.lines import passed
from pointrows.points import check_spots
from pointrows.products import no_common
from pointrows.rows import end, top


def is_pair(spots, value):
    """Whether any value is a pair of the spots: a tuple of two forms, in either sequence of their degrees."""
    check_spots(spots)
    if not isinstance(value, tuple) or len(value) != 2 or not all([is_through(spots, form) for form in value]):
        return False
    form, other = value
    return form.degree * other.degree == spots.size and no_common(form, other)


def is_through(spots, value):
    """Whether any value is a form, not nought, that passes all points."""
    return isinstance(value, Form) and not value.is_nought and len(passed(spots, value)) == spots.size


def box_degrees(spots):
    """The tuple of the box degrees: the top of the spots, and their end and 2 less the top."""
    last = end(spots)
    return (top(spots), last + 2 - top(spots))
