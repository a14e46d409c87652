"""What comes to 0 with some rows of INTEGERS: short lists of INTEGERS, of which all such lists are sums.

They are sums of multiples by INTEGERS, not only by fractions, of the lists that are told. So there are no shorter ones
that could be found only by dividing sums of them.
"""

from pointrows.elimination import solved, units
from pointrows.short import shortened
from pointrows.threes import dot


def kernel(rows, width):
    """Independent short lists of as many INTEGERS as the width, of which all that come to 0 with each row are sums."""
    return shortened(stepped_kernel(rows, width))


def shortest(lists):
    """The first one of the lists whose numbers are all at most the greatest one of each other list."""
    return min(lists, key=greatest)


def greatest(numbers):
    """The greatest of the numbers, whatever their signs."""
    return max([abs(number) for number in numbers])


def stepped_kernel(rows, width):
    """Lists as kernel tells, perhaps long ones.

    Any numbers at the places for which the rows are not solved tell the others, by fractions; here are those that
    tell INTEGERS.
    """
    places, done = solved(rows, width)
    free = [place for place in range(width) if place not in places]
    lists = units(len(free))
    for place, row in zip(places, done):
        lists = divisible(lists, [row[at] for at in free], row[place])
    return [filled(numbers, free, places, done) for numbers in lists]


def filled(numbers, free, places, done):
    """The whole list with these numbers at the free places."""
    whole = [0] * (len(free) + len(places))
    for place, number in zip(free, numbers):
        whole[place] = number
    for place, row in zip(places, done):
        whole[place] = -dot(row, whole) // row[place]
    return whole


def divisible(lists, numbers, modulus):
    """Stepped lists, of which all sums of the lists that come with the numbers to multiples of the modulus are sums.

    Stepped lists have a number above 0 at their own place, and only noughts behind it.
    """
    worths = [dot(own, numbers) % modulus for own in lists]
    if not any(worths):
        return lists
    # What the sums of the lists so far come to are, modulo the modulus, the multiples of what `telling` comes to.
    common, telling = modulus, [0] * len(lists)
    found = []
    for own, worth in zip(lists, worths):
        shared, times, own_times = common_sum(common, worth)
        found.append(stepped_down(summed(common // shared, own, -(worth // shared), telling), found))
        telling = stepped_down(summed(own_times, own, times, telling), found)
        common = shared
    return found


def common_sum(number, other):
    """The greatest common divisor of a number above 0 and one from 0 on, and of which multiples it is the sum."""
    divisor, rest, times, next_times = number, other, 1, 0
    while rest != 0:
        many = divisor // rest
        divisor, rest = rest, divisor - many * rest
        times, next_times = next_times, times - many * next_times
    return divisor, times, (divisor - times * number) // other if other != 0 else 0


def summed(times, numbers, other_times, others):
    """The sum of a multiple of the numbers and one of the others."""
    return [times * number + other_times * other for number, other in zip(numbers, others)]


def stepped_down(numbers, lists):
    """The numbers less multiples of the stepped lists, so that those at the places of the lists are short."""
    for place in reversed(range(len(lists))):
        times = numbers[place] // lists[place][place]
        if times != 0:
            numbers = summed(1, numbers, -times, lists[place])
    return numbers
