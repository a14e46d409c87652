"""Written forms: how values of some sorts are written in lines."""

from pointrows.basics import is_integer, is_list
from pointrows.errors import InvalidSort, InvalidThing
from pointrows.forms import Form
from pointrows.points import MOST_POINTS, Spots, is_point
from pointrows.possible import is_row
from pointrows.tables import is_table
from pointrows.wording import numbers_word, point_word, table_word, three_word

SORTS = ("point", "spots", "form", "table", "row", "sum")


def sorts():
    """The list of the words of the sorts."""
    return list(SORTS)


def is_of(sort, value):
    """Whether any value is one of this sort."""
    if not isinstance(sort, str) or sort not in SORTS:
        raise InvalidSort(sort)
    match sort:
        case "point":
            return is_point(value)
        case "spots":
            return isinstance(value, Spots)
        case "form":
            return isinstance(value, Form)
        case "table":
            return is_table(value)
        case "row":
            return is_row(value)
        case _:
            return is_numbers(value)


def is_numbers(value):
    """Whether any value is a list of 1 to 24 INTEGERS, not all 0: it may be a sum of some spots."""
    if not is_list(value) or not 1 <= len(value) <= MOST_POINTS:
        return False
    return all([is_integer(number) for number in value]) and any(value)


def written(sort, value):
    """The written form of the value of this sort."""
    if not is_of(sort, value):
        raise InvalidThing(value)
    return "".join([f"{line}\n" for line in lines_written(sort, value)])


def lines_written(sort, value):
    """The list of the lines of the value of this sort."""
    match sort:
        case "point":
            return [f"point {point_word(value)}"]
        case "spots":
            return ["spots"] + [f"spot {three_word(point)}" for point in value.points()]
        case "form":
            terms = value.terms()
            return [f"form {value.degree}"] + [f"term {three_word(triple)} {terms[triple]}" for triple in terms]
        case "table":
            return [f"table {table_word(value)}"]
        case _:
            return [f"{sort} {numbers_word(value)}"]
