"""Short lists of INTEGERS, of which the same lists are sums of multiples by INTEGERS as of long ones.

A few of the lists, the core, are made as short as this package can; the others lose multiples of these. If the others
stay longer than is wanted, they join the core one by one, which makes its lists shorter on the whole, for there are
more sums then: as a rule the lists of the core are all alike in length, and what they have of it multiplied stays.
So at the end the lists are short enough, or all of them are in the core.
"""

from pointrows.threes import dot
from pointrows.turns import BITS, nearest, turned

# Lists with numbers of fewer bits are left as they are; and none with more are left, for these have 600 digits nearly.
LEAST_BITS = 100
MOST_BITS = 1800
# How many lists the core has, more or less, if the others can be made as short as its own.
CORE = 3


def shortened(lists):
    """Short lists in the place of the independent lists."""
    enough = bits_of(lists) // CORE
    enough = min(MOST_BITS, max(LEAST_BITS, enough))
    core, rest = ([], [], []), []
    for numbers in lists:
        numbers = reduced_by(numbers, core)
        if bits_of([numbers]) <= enough:
            rest.append(numbers)
        else:
            core = joined(core, numbers)
    while rest and bits_of(core[0]) > enough:
        core = joined(core, rest.pop())
    return core[0] + [reduced_by(numbers, core) for numbers in rest]


def bits_of(lists):
    """How many bits the greatest number of the lists has."""
    return max([abs(number).bit_length() for numbers in lists for number in numbers], default=0)


def reduced_by(numbers, core):
    """The numbers less multiples of the lists of the core, so that they are short."""
    lists, lengths, shares = core
    return beside(numbers, lists, lengths, shares)[0]


def joined(core, numbers):
    """The core of these lists and the numbers: short lists, and their measures."""
    lists = core[0] + [numbers]
    while True:
        lists, lengths, shares = measured(lists)
        rows, swaps = turned(lengths, shares)
        if swaps == 0 and len(rows) == len(lists):
            # What was taken off without a swap is less than the measures can be wrong, or nothing.
            return lists, lengths, shares
        lists = [combined(row, lists) for row in rows] + lists[len(rows):]


def combined(row, lists):
    """The sum of the lists, each times the number that the row tells for it."""
    used = [(times, numbers) for times, numbers in zip(row, lists) if times != 0]
    total = [0] * len(lists[0])
    for times, numbers in used:
        total = [number + times * more for number, more in zip(total, numbers)]
    return total


def measured(lists):
    """The lists, each less multiples of those ahead, and the lengths and shares of the first ones.

    If what is upright on those ahead is so short that it cannot be told well, the lists behind are not measured.
    """
    kept, lengths, shares = [], [], []
    for numbers in lists:
        numbers, own_shares, worths = beside(numbers, kept, lengths, shares)
        length = (dot(numbers, numbers) << BITS) - (dot(own_shares, worths) >> BITS)
        kept.append(numbers)
        shares.append(own_shares)
        lengths.append(max(1, length))
        if length < max(lengths) >> (BITS // 4):
            return kept + lists[len(kept):], lengths, shares
    return kept, lengths, shares


def beside(numbers, lists, lengths, shares):
    """The numbers less multiples of the measured lists, the shares of these in them, and shares times lengths."""
    while True:
        own_shares, worths = [], []
        for other, length, other_shares in zip(lists, lengths, shares):
            worth = (dot(numbers, other) << BITS) - (dot(other_shares, worths) >> BITS)
            worths.append(worth)
            own_shares.append((worth << BITS) // length)
        row = multiples(own_shares, shares)
        if not any(row):
            return numbers, own_shares, worths
        numbers = [number - less for number, less in zip(numbers, combined(row, lists))]


def multiples(own_shares, shares):
    """How often each of the measured lists is to be taken off, so that a bit more than half of each is left at most."""
    most = (51 << BITS) // 100
    row = [0] * len(own_shares)
    left = own_shares
    for at in reversed(range(len(own_shares))):
        if abs(left[at]) > most:
            row[at] = nearest(left[at])
            left = [share - row[at] * less for share, less in zip(left, shares[at])]
    return row
