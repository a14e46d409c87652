"""INTEGERS without a common divisor, and their powers."""

from math import gcd


def divisor(numbers):
    """The greatest INTEGER that divides all the numbers; 0 if they are all 0."""
    common = 0
    for number in numbers:
        common = gcd(common, number)
    return common


def plain(numbers):
    """The list of the numbers, not all 0, by their greatest divisor, signed so that the first not 0 is above 0."""
    common = divisor(numbers)
    first = [number for number in numbers if number != 0][0]
    if first < 0:
        common = -common
    return [number // common for number in numbers]


def powers(number, most):
    """The list of the powers of the number, from the one of 0 to that of most."""
    found = [1]
    for _ in range(most):
        found.append(found[-1] * number)
    return found
