"""Claims and their contraries, which of both is true, and papers that show it."""

from pointrows.basics import is_count, is_integer, is_list
from pointrows.conditions import conditions
from pointrows.errors import InvalidClaim
from pointrows.few import fails, is_few, is_why_fails, why_fails
from pointrows.forms import Form
from pointrows.kernels import shortest
from pointrows.pairs import is_pair
from pointrows.parting import is_parting, parting_form
from pointrows.points import Spots, is_point
from pointrows.possible import fault, is_counts
from pointrows.rows import MOST_END, numbers_of
from pointrows.stairs import stair
from pointrows.sums import comes_of, is_sum, parted_positions, sums
from pointrows.verdicts import is_all, is_why_not, pair, why_not

WORDS = (("all", "bars"), ("passes", "misses"), ("parts", "stays"), ("free", "bound"), ("row", "broken"),
         ("fails", "holds"))


def words():
    """The list of the tuples of the two words of each kind of claims."""
    return list(WORDS)


def pair_of(word):
    """The two words of the kind of claims that any value is a word of; None if it is none."""
    for both in WORDS:
        if isinstance(word, str) and word in both:
            return both
    return None


def is_claim(value):
    """Whether any value is a claim."""
    if not isinstance(value, tuple) or len(value) == 0 or pair_of(value[0]) is None:
        return False
    return fits_word(pair_of(value[0])[0], list(value[1:]))


def fits_word(word, parts):
    """Whether the parts are those of a claim with this word, the first one of its kind."""
    if word == "row":
        return len(parts) == 1 and is_counts(parts[0])
    if word == "passes":
        return len(parts) == 2 and isinstance(parts[0], Form) and is_point(parts[1])
    if len(parts) == 0 or not isinstance(parts[0], Spots):
        return False
    spots = parts[0]
    if word == "all":
        return len(parts) == 1 and has_row(spots)
    if word == "parts":
        return len(parts) == 3 and is_below(parts[1], spots.size) and is_degree(parts[2]) and has_row(spots)
    if len(parts) != 2 or not is_degree(parts[1]):
        return False
    return word == "free" or (parts[1] > 0 and is_few(spots, parts[1]))


def is_below(value, most):
    """Whether any value is a COUNT below the number."""
    return is_count(value) and value < most


def is_degree(value):
    """Whether any value is a degree of a claim."""
    return is_below(value, MOST_END + 1)


def has_row(spots):
    """Whether the row of the spots is told: its end is not too great."""
    return conditions(spots, MOST_END) == spots.size


def check_claim(claim):
    """InvalidClaim unless a claim."""
    if not is_claim(claim):
        raise InvalidClaim(claim)


def is_true(claim):
    """Whether the claim is true."""
    check_claim(claim)
    return is_first_true(claim) == (claim[0] == pair_of(claim[0])[0])


def is_first_true(claim):
    """Whether that one of the claim and its contrary is true which has the first word of both."""
    match pair_of(claim[0])[0]:
        case "all":
            return is_all(claim[1])
        case "passes":
            return claim[1].worth(claim[2]) == 0
        case "parts":
            # Whatever is parted at the part degree is so at each greater one.
            return claim[2] in parted_positions(claim[1], claim[3])
        case "free":
            return not fails(claim[1], claim[2])
        case "row":
            return fault(claim[1]) is None
        case _:
            return fails(claim[1], claim[2])


def contrary(claim):
    """The contrary claim, with copies of lists."""
    check_claim(claim)
    first, second = pair_of(claim[0])
    parts = [list(part) if isinstance(part, list) else part for part in claim[1:]]
    return (second if claim[0] == first else first, *parts)


def paper_of(claim):
    """A paper of the claim, with short numbers; None if it is not true."""
    if not is_true(claim):
        return None
    match claim[0]:
        case "all":
            return pair(claim[1])
        case "bars":
            return why_not(claim[1])
        case "passes" | "misses":
            return claim[1].worth(claim[2])
        case "parts":
            return parting_form(claim[1], claim[2], claim[3])
        case "stays":
            return comes_of(claim[1], claim[2], claim[3])
        case "free" | "holds":
            return [parting_form(claim[1], position, claim[2]) for position in range(claim[1].size)]
        case "bound":
            return shortest(sums(claim[1], claim[2]))
        case "row":
            return stair(claim[1])
        case "broken":
            return fault(claim[1])
        case _:
            return why_fails(claim[1], claim[2])


def is_paper_of(claim, value):
    """Whether any value is a paper of the claim."""
    check_claim(claim)
    match claim[0]:
        case "all":
            return is_pair(claim[1], value)
        case "bars":
            return is_why_not(claim[1], value)
        case "passes" | "misses":
            worth = claim[1].worth(claim[2])
            return is_integer(value) and value == worth and (worth == 0) == (claim[0] == "passes")
        case "parts":
            return is_parting_at(claim[1], claim[2], claim[3], value)
        case "stays":
            return is_sum(claim[1], claim[3], value) and value[claim[2]] != 0
        case "free" | "holds":
            return are_parting(claim[1], claim[2], value)
        case "bound":
            return is_sum(claim[1], claim[2], value)
        case "row":
            return isinstance(value, Spots) and has_row(value) and numbers_of(value) == list(claim[1])
        case "broken":
            return is_count(value) and value == fault(claim[1])
        case _:
            return is_why_fails(claim[1], claim[2], value)


def is_parting_at(spots, position, degree, value):
    """Whether any value is a form of this degree that passes all points but the one at the position, and not it."""
    return is_parting(spots, position, value) and value.degree == degree


def are_parting(spots, degree, value):
    """Whether any value is a list of such forms of this degree, one for each position."""
    if not is_list(value) or len(value) != spots.size:
        return False
    return all([is_parting_at(spots, position, degree, form) for position, form in enumerate(value)])
