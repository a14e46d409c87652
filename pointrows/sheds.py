"""Rows that are left when a point is taken away, and points that are parted early."""

from pointrows.basics import is_count
from pointrows.conditions import form_size
from pointrows.errors import OneLeft
from pointrows.forms import Form
from pointrows.parting import check_spots_position, is_parting, part_degree, part_degrees, parting_form
from pointrows.points import check_spots
from pointrows.rows import end, row
from pointrows.sums import parted_positions

# Numbers of so many bits have at most 600 digits: more must not be told where fewer would do.
MOST_BITS = 1993


def row_without(spots, position):
    """The row of the others, a list."""
    check_spots_position(spots, position)
    check_others(spots)
    return shed(row(spots), part_degree(spots, position))


def check_others(spots):
    """OneLeft if nothing is left when one point is taken away."""
    if spots.size == 1:
        raise OneLeft()


def shed(numbers, degree):
    """The row with one less at the place of the degree, a 0 at the end left out."""
    less = numbers[:degree] + [numbers[degree] - 1] + numbers[degree + 1:]
    return less if less[-1] > 0 else less[:-1]


def all_late(spots):
    """Whether all points are parted from the others at the end of the row only."""
    last = end(spots)
    # A point that is parted at a degree is so at all greater ones.
    return last == 0 or len(parted_positions(spots, last - 1)) == 0


def early(spots):
    """A paper of an early point: its position, and a form below the end of the row that parts it; None if all are late.

    Which point and which degree are free; the form is the first one that is short enough, or the shortest.
    """
    last = end(spots)
    papers = []
    for position, least in enumerate(part_degrees(spots)):
        for degree in range(least, last):
            paper = (position, parting_form(spots, position, degree))
            if size_of(paper).bit_length() <= MOST_BITS:
                return paper
            papers.append(paper)
    return min(papers, key=size_of) if papers else None


def size_of(paper):
    """The greatest number of the paper's form."""
    return form_size(paper[1])


def is_early(spots, value):
    """Whether any value is a paper of an early point."""
    last = end(spots)
    if not isinstance(value, tuple) or len(value) != 2:
        return False
    position, form = value
    if not is_count(position) or position >= spots.size or not isinstance(form, Form) or form.degree >= last:
        return False
    return is_parting(spots, position, form)


def late_rows(spots):
    """The sorted list of the rows that are left when one point is taken away, each row once."""
    check_spots(spots)
    check_others(spots)
    degrees = sorted(set(part_degrees(spots)))
    return sorted([shed(row(spots), degree) for degree in degrees])
