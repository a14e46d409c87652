"""Points of the plane, told in one way, and Spots: some unlike points in their sequence."""

from pointrows.basics import is_list
from pointrows.checks import check_position
from pointrows.errors import InvalidPoint, InvalidPoints, InvalidSpots, OneLeft, PointThere, TooMany
from pointrows.plain import plain
from pointrows.threes import is_three

MOST_POINTS = 24


def is_point(value):
    """Whether any value is a point: a list of three INTEGERS, not all 0."""
    return is_three(value) and any([number != 0 for number in value])


def told_point(point):
    """The told point that is the same as the point, a tuple."""
    if not is_point(point):
        raise InvalidPoint(point)
    return tuple(plain(point))


class Spots:
    """From 1 to 24 unlike points, in their sequence."""

    def __init__(self, points):
        if not is_list(points) or not 1 <= len(points) <= MOST_POINTS:
            raise InvalidPoints(None)
        told = []
        for position, point in enumerate(points):
            if not is_point(point) or told_point(point) in told:
                raise InvalidPoints(position)
            told.append(told_point(point))
        self._points = told

    @property
    def size(self):
        """How many points they are."""
        return len(self._points)

    def __eq__(self, other):
        return isinstance(other, Spots) and self._points == other._points

    def __repr__(self):
        return f"Spots({self._points})"

    def points(self):
        """The list of the told points."""
        return list(self._points)

    def place(self, point):
        """The position of the point, None if it is none of them."""
        told = told_point(point)
        if told not in self._points:
            return None
        return self._points.index(told)

    def without(self, position):
        """The Spots without the point at the position."""
        check_position(position, self.size)
        if self.size == 1:
            raise OneLeft()
        return Spots(self._points[:position] + self._points[position + 1:])

    def with_point(self, point):
        """The Spots with the point as the last one."""
        told = told_point(point)
        if told in self._points:
            raise PointThere()
        if self.size == MOST_POINTS:
            raise TooMany("points", MOST_POINTS)
        return Spots([*self._points, told])


def check_spots(spots):
    """InvalidSpots unless Spots."""
    if not isinstance(spots, Spots):
        raise InvalidSpots(spots)


def same_points(spots, other):
    """Whether both have the same points, in any sequence."""
    check_spots(spots)
    check_spots(other)
    return sorted(spots.points()) == sorted(other.points())
