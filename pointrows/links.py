"""What is left of a row when another one is taken off, read from the other end."""

from pointrows.common import without_end


def linked(numbers, others):
    """The numbers, each less the one of the others as far from the other end, noughts at the end left out.

    The others are at most as many as the numbers.
    """
    taken = [0] * (len(numbers) - len(others)) + list(others)[::-1]
    return without_end([number - less for number, less in zip(numbers, taken)])
