"""The common part of two forms, reckoned with a great INTEGER in the place of a letter.

With 1 for z and a great base for y a form becomes a polynomial in x alone, and of two of these the greatest common
divisor is easily reckoned. Its numbers, told by digits to the base, are those of a polynomial in x and y again, and
this, made plain, is taken for the common part if it is a part of both forms.

Why it is then all of the common part: what it lacks would be, with the base for y, a divisor of the number that was
taken off to make it plain, so an INTEGER of at most half the base. But the base is more than twice as great as all
numbers of the forms; so no polynomial in y alone that divides a number of theirs, told by powers of x, comes to 0
there, nor to so little. So what it lacks is neither a polynomial with x nor one with y: it is a number.

Why there is an end: if the try fails, a greater base is taken. What the forms, divided by their common part, have in
common with a base for y is a number, but for a few bases, and divides one number that is the same for all bases; so
from some base on the digits are those of the common part times a number.
"""

from math import gcd

from pointrows.plain import divisor, plain, powers
from pointrows.terms import divided, terms_of


def common_terms(terms, others):
    """The terms of the plain common part of two plain forms that are not nought."""
    base = 2 * max([abs(number) for number in list(terms.values()) + list(others.values())]) + 2
    while True:
        found = part_by(base, terms, others)
        if divided(terms, found) is not None and divided(others, found) is not None:
            return found
        base = base * base


def part_by(base, terms, others):
    """The terms that the base tells for the common part."""
    shared = common_polynomial(in_x(base, terms), in_x(base, others))
    numbers = {}
    for i, number in enumerate(shared):
        for j, digit in enumerate(digits(number, base)):
            if digit != 0:
                numbers[(i, j)] = digit
    degree = max([i + j for i, j in numbers])
    # A part z z .. cannot be seen where 1 stands for z, so it is looked up.
    outer = min([k for _, _, k in [*terms, *others]])
    told = {(i, j, degree - i - j + outer): numbers[(i, j)] for i, j in numbers}
    falling = sorted(list(told), reverse=True)
    return terms_of(falling, plain([told[triple] for triple in falling]))


def in_x(base, terms):
    """The numbers of the polynomial in x, from that without x on, with the base for y and 1 for z."""
    most_x = max([i for i, _, _ in terms])
    of_base = powers(base, max([j for _, j, _ in terms]))
    return [sum([terms[(i, j, k)] * of_base[j] for i, j, k in terms if i == place]) for place in range(most_x + 1)]


def digits(number, base):
    """The numbers, none beyond half the base, that times 1, the base, its square .. come to the number."""
    found = []
    while number != 0:
        digit = (number + base // 2) % base - base // 2
        found.append(digit)
        number = (number - digit) // base
    return found


def common_polynomial(numbers, others):
    """The greatest common divisor of two polynomials that are not nought, with the divisor of all their numbers."""
    common = gcd(divisor(numbers), divisor(others))
    while others:
        numbers, others = others, remainder(numbers, others)
    return [common * number for number in plain(numbers)]


def remainder(numbers, others):
    """What a division of the first polynomial by the other one leaves, times a fraction that makes it plain."""
    left = numbers
    while len(left) >= len(others):
        ahead = [0] * (len(left) - len(others))
        left = [number * others[-1] - other * left[-1] for number, other in zip(left, ahead + others)]
        left = without_end(left)
    return plain(left) if left else []


def without_end(numbers):
    """The numbers without the noughts at their end."""
    many = len(numbers)
    while many > 0 and numbers[many - 1] == 0:
        many -= 1
    return numbers[:many]
