"""Terms of forms: dicts from triples to INTEGERS that are not 0."""

from pointrows.plain import powers
from pointrows.threes import dot

LETTER_TRIPLES = ((1, 0, 0), (0, 1, 0), (0, 0, 1))


def triples_of(degree):
    """The list of all triples with this sum, falling."""
    return [(i, j, degree - i - j) for i in range(degree, -1, -1) for j in range(degree - i, -1, -1)]


def terms_of(triples, numbers):
    """The terms with these numbers for the triples, those with 0 left out."""
    return {triple: number for triple, number in zip(triples, numbers) if number != 0}


def added(terms, others):
    """The terms of the sum of two forms of one degree."""
    sums = {}
    for triple in [*terms, *others]:
        number = terms.get(triple, 0) + others.get(triple, 0)
        if number != 0:
            sums[triple] = number
    return sums


def scaled(terms, number):
    """The terms, each times the number."""
    if number == 0:
        return {}
    return {triple: terms[triple] * number for triple in terms}


def multiplied(terms, others):
    """The terms of the product of two forms."""
    sums = {}
    for i, j, k in terms:
        for p, q, r in others:
            triple = (i + p, j + q, k + r)
            sums[triple] = sums.get(triple, 0) + terms[(i, j, k)] * others[(p, q, r)]
    return {triple: sums[triple] for triple in sums if sums[triple] != 0}


def worths_of(triples, degree, numbers):
    """The list of what each of the triples, of this degree, comes to with the three numbers for x, y, z."""
    of_x, of_y, of_z = [powers(number, degree) for number in numbers]
    return [of_x[i] * of_y[j] * of_z[k] for i, j, k in triples]


def worth_of(terms, degree, numbers):
    """What the terms come to with the three numbers for x, y, z."""
    return dot(list(terms.values()), worths_of(list(terms), degree, numbers))


def divided(terms, parts):
    """The terms that, multiplied with the parts, come to the terms; None if there are none with INTEGERS."""
    left = {triple: terms[triple] for triple in terms}
    found = {}
    lead = max(list(parts))
    while left:
        first = max(list(left))
        i, j, k = [most - least for most, least in zip(first, lead)]
        if min(i, j, k) < 0 or left[first] % parts[lead] != 0:
            return None
        # The first term of the rest is the product of both first terms, so it is gone behind this step.
        found[(i, j, k)] = left[first] // parts[lead]
        left = added(left, scaled(multiplied({(i, j, k): found[(i, j, k)]}, parts), -1))
    return found
