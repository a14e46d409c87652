"""What is left when points are taken from all those that two forms have in common."""

from pointrows.basics import is_count, is_list
from pointrows.errors import InvalidPositions, NotAll
from pointrows.forms import Form
from pointrows.lines import passed
from pointrows.links import linked
from pointrows.parting import check_spots_position
from pointrows.points import Spots, check_spots
from pointrows.rows import end, numbers_of
from pointrows.verdicts import is_all


def rest(spots, positions):
    """The Spots that are left, in their sequence."""
    check_taken(spots, positions)
    return Spots(others_than(spots.points(), positions))


def rest_row(spots, positions):
    """The row of the points that are left, a list, told by the row of the taken ones."""
    check_taken(spots, positions)
    points = spots.points()
    taken = [points[position] for position in positions]
    return linked(numbers_of(spots), numbers_of(Spots(taken)) if taken else [])


def is_last(spots, position, value):
    """Whether any value is a form that passes all other points, of the degree at which it passes this one, too."""
    check_spots_position(spots, position)
    check_all(spots)
    if not isinstance(value, Form) or value.degree != end(spots) - 1:
        return False
    on_form = passed(spots, value)
    return all([at in on_form for at in range(spots.size) if at != position])


def check_taken(spots, positions):
    """The errors of spots and positions; NotAll unless the spots are all that two forms have in common."""
    check_spots(spots)
    check_positions(positions, spots.size)
    check_all(spots)


def check_all(spots):
    """NotAll unless the spots are all that two forms without a common part have in common."""
    if not is_all(spots):
        raise NotAll()


def check_positions(positions, size):
    """InvalidPositions unless a list of unlike positions among as many as the size, not of all."""
    if not is_list(positions) or not all([is_count(position) and position < size for position in positions]):
        raise InvalidPositions(positions)
    if len(set(positions)) < len(positions) or len(positions) == size:
        raise InvalidPositions(positions)


def others_than(points, positions):
    """The list of the points that are not at the positions."""
    return [point for position, point in enumerate(points) if position not in positions]
