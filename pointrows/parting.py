"""Which points of some Spots are parted from the others, from which degree on, and by which forms."""

from pointrows.checks import check_degree, check_position
from pointrows.conditions import MOST_CONDITIONS_DEGREE, condition_rows
from pointrows.forms import Form
from pointrows.kernels import kernel, shortest
from pointrows.plain import plain
from pointrows.points import check_spots
from pointrows.rows import end
from pointrows.sums import parted_positions
from pointrows.terms import terms_of, triples_of
from pointrows.threes import dot


def check_spots_position(spots, position):
    """InvalidSpots unless Spots, InvalidPosition unless a position of them."""
    check_spots(spots)
    check_position(position, spots.size)


def part_degree(spots, position):
    """The least degree at which the point is parted from the others."""
    check_spots_position(spots, position)
    return part_degrees(spots)[position]


def part_degrees(spots):
    """The list of the least degrees at which the points are parted from the others, by positions."""
    # At the end of the row no point is left in a sum, so each one finds its degree.
    last = end(spots)
    found = [last] * spots.size
    for degree in reversed(range(last)):
        for position in parted_positions(spots, degree):
            found[position] = degree
    return found


def parting_form(spots, position, degree):
    """A short plain form of the degree that passes all points but this one; None if there is none."""
    check_spots_position(spots, position)
    check_degree(degree, MOST_CONDITIONS_DEGREE)
    rows, triples = condition_rows(spots, degree), triples_of(degree)
    own = rows.pop(position)
    found = [numbers for numbers in kernel(rows, len(triples)) if dot(numbers, own) != 0]
    return Form(degree, terms_of(triples, plain(shortest(found)))) if found else None


def is_parting(spots, position, value):
    """Whether any value is a form of a degree to 9 that passes all points but the one at the position, and not it."""
    check_spots_position(spots, position)
    if not isinstance(value, Form) or value.degree > MOST_CONDITIONS_DEGREE:
        return False
    return [at for at, point in enumerate(spots.points()) if value.worth(point) != 0] == [position]
