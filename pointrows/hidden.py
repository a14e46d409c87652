"""The form that is hidden in some Spots where their row stands still, and the points on and off it."""

from pointrows.conditions import forms_through
from pointrows.points import Spots, check_spots
from pointrows.rows import numbers_of
from pointrows.still import check_place, check_still
from pointrows.sums import parted_positions


def hidden_form(spots, place):
    """The hidden form at the place: the common part of all forms of this degree that pass all points."""
    degree = still_number(spots, place)
    off = parted_positions(spots, place)
    on = [point for position, point in enumerate(spots.points()) if position not in off]
    # It is the only form of its degree that passes all points on it.
    return forms_through(Spots(on), degree)[0]


def hidden_points(spots, place):
    """The tuple of the lists of the positions, rising, of the points on the hidden form and of those off it."""
    still_number(spots, place)
    # A point is off the hidden form just if it is parted from the others at the place.
    off = parted_positions(spots, place)
    return [position for position in range(spots.size) if position not in off], off


def still_number(spots, place):
    """The number of the row at the place, where it stands still; the errors where it does not."""
    check_spots(spots)
    check_place(place)
    numbers = numbers_of(spots)
    check_still(numbers, place)
    return numbers[place]
