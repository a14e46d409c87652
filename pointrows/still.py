"""Places at which rows stand still, and the rows of the points on and off the form that is hidden there."""

from pointrows.basics import is_count
from pointrows.errors import InvalidPlace, NotStill
from pointrows.possible import check_row
from pointrows.rows import numbers_of


def still_places(spots):
    """The list of the places, rising, at which the row of the spots stands still."""
    return places_in(numbers_of(spots))


def places_in(numbers):
    """The list of the places at which the row stands still."""
    first = top_of(numbers)
    return [place for place in range(first, len(numbers) - 1) if numbers[place] == numbers[place + 1]]


def top_of(numbers):
    """The first place of the row whose number is not that place and one more; behind the end if there is none."""
    for place, number in enumerate(numbers):
        if number != place + 1:
            return place
    return len(numbers)


def check_place(place):
    """InvalidPlace unless a COUNT."""
    if not is_count(place):
        raise InvalidPlace(place)


def check_still(numbers, place):
    """NotStill unless the row stands still at the place."""
    if place not in places_in(numbers):
        raise NotStill()


def check_row_place(row, place):
    """InvalidRow unless a row that can be, InvalidPlace unless a COUNT, NotStill unless the row stands still there."""
    check_row(row)
    check_place(place)
    check_still(row, place)


def row_on(row, place):
    """The row of the points on the hidden form."""
    check_row_place(row, place)
    # Behind the place the numbers are at most the one at it.
    return [min(number, row[place]) for number in row]


def row_off(row, place):
    """The row of the points off the hidden form, an empty list if there are none."""
    check_row_place(row, place)
    many = row[place]
    # Ahead of the place the numbers fall to the one at it, so that the noughts come last, and are left out.
    return [number - many for number in row[many:place] if number > many]
