"""Turns of lists of INTEGERS: which sums of them are shorter (Lenstra, Lenstra and Lovasz 1982).

Only measures of the lists are looked at here: the squared LENGTH of each list upright on all those ahead of it, and the
SHARE of each of those in it. Both are told as multiples of a small fraction, so nearly, with as many bits as BITS
tells. What comes of it are rows of INTEGERS, which tell how new lists are sums of the lists; each list is such a sum
of the new ones, too, however well the measures are known.
"""

from pointrows.elimination import units

BITS = 640


def nearest(share):
    """The INTEGER nearest to the share."""
    return (share + (1 << (BITS - 1))) >> BITS


class Turns:
    """The measures of some lists, and the rows that tell which sums of the first ones they are by now."""

    def __init__(self, lengths, shares):
        self.lengths = list(lengths)
        self.shares = [list(row) for row in shares]
        self.rows = units(len(lengths))
        self.swaps = 0
        # Each swap makes the shares less well known; they serve as long as there is room.
        self.room = BITS // 4

    def take_off(self, at, other):
        """Takes the list ahead off, so often that at most half of it is left as its share."""
        times = nearest(self.shares[at][other])
        if times != 0:
            row = self.shares[at]
            row[:other] = [share - times * less for share, less in zip(row, self.shares[other])]
            row[other] -= times << BITS
            self.rows[at] = [number - times * less for number, less in zip(self.rows[at], self.rows[other])]

    def length_ahead(self, at):
        """What the length of the list ahead of it would be if both were swapped."""
        share = self.shares[at][at - 1]
        return self.lengths[at] + (((share * share) >> BITS) * self.lengths[at - 1] >> BITS)

    def swap(self, at, length):
        """Swaps the list and the one ahead of it, which has this length then."""
        lengths, shares, rows = self.lengths, self.shares, self.rows
        share, ahead = shares[at][at - 1], lengths[at - 1]
        new_share = share * ahead // length
        rows[at - 1], rows[at] = rows[at], rows[at - 1]
        shares[at - 1], shares[at] = shares[at][:at - 1], shares[at - 1] + [new_share]
        for row in shares[at + 1:]:
            left = row[at - 1] - (share * row[at] >> BITS)
            row[at - 1], row[at] = row[at] + (new_share * left >> BITS), left
        lengths[at - 1], lengths[at] = length, max(1, lengths[at] * ahead // length)
        self.swaps += 1
        self.room -= ahead.bit_length() - length.bit_length() + 1


def turned(lengths, shares):
    """The rows of shorter lists, and how many swaps led to them; there are more to come if the room was too small.

    A swap makes the list that comes ahead shorter than three quarters of the one that was there (both squared). So
    the lengths, those of the first lists multiplied, only fall, and there is an end.
    """
    turns = Turns(lengths, shares)
    at = 1
    while at < len(lengths) and turns.room > 0:
        turns.take_off(at, at - 1)
        length = turns.length_ahead(at)
        if 4 * length < 3 * turns.lengths[at - 1]:
            turns.swap(at, length)
            at = max(1, at - 1)
        else:
            for other in reversed(range(at - 1)):
                turns.take_off(at, other)
            at += 1
    return turns.rows, turns.swaps
