"""Whether some points are all that two forms have in common: the pair of forms, or a paper that there is none."""

from pointrows.basics import is_count
from pointrows.conditions import form_size, forms_through
from pointrows.pairs import box_degrees
from pointrows.possible import is_mirrored
from pointrows.products import quotient
from pointrows.rows import numbers_of
from pointrows.sheds import all_late, early, is_early


def is_all(spots):
    """Whether there is a pair of the spots: their row reads the same from both ends, and no point is parted early."""
    return is_mirrored(numbers_of(spots)) and all_late(spots)


def pair(spots):
    """A pair of the spots, the form of the lesser degree first, short ones; None if there is none."""
    if not is_all(spots):
        return None
    least, most = box_degrees(spots)
    forms = forms_through(spots, least)
    if least == most:
        # Two forms are independent here, and they have no common part.
        return (forms[0], forms[1])
    others = [form for form in forms_through(spots, most) if quotient(form, forms[0]) is None]
    return (forms[0], min(others, key=form_size))


def why_not(spots):
    """A paper that there is no pair of the spots; None if there is one."""
    numbers = numbers_of(spots)
    for place, number in enumerate(numbers):
        if number != numbers[len(numbers) - 1 - place]:
            return ("ends", place)
    paper = early(spots)
    return None if paper is None else ("parted", *paper)


def is_why_not(spots, value):
    """Whether any value is a paper that there is no pair of the spots."""
    numbers = numbers_of(spots)
    if not isinstance(value, tuple) or len(value) == 0 or not isinstance(value[0], str):
        return False
    if value[0] == "ends" and len(value) == 2:
        place = value[1]
        return is_count(place) and place < len(numbers) and numbers[place] != numbers[len(numbers) - 1 - place]
    return value[0] == "parted" and is_early(spots, value[1:])
