"""What written forms tell: the sort and the value, or the first line that is wrong."""

from pointrows.errors import InvalidText
from pointrows.forms import MOST_DEGREE, Form
from pointrows.points import MOST_POINTS, Spots, told_point
from pointrows.texts import is_of
from pointrows.wording import integer_of, parts_of, point_of, rows_of_word, three_of


def read(text):
    """The tuple of the sort and the value that has this written form."""
    if not isinstance(text, str):
        raise InvalidText(0)
    # What stands behind the last line feed is nothing, or a line without one.
    *lines, behind = text.split("\n")
    first = lines[0] if lines else ""
    sort, _, word = first.partition(" ")
    if first == "spots":
        value, read_lines = read_spots(lines)
    elif sort == "form":
        value, read_lines = read_form(word, lines)
    else:
        value = read_word(sort, word)
        read_lines = 0 if value is None else 1
    if value is None or read_lines < len(lines) or behind != "":
        raise InvalidText(read_lines + 1)
    return (sort, value)


def read_word(sort, word):
    """The value of a sort that is written in one line, with this word behind that of the sort; None without one."""
    match sort:
        case "point":
            return told_of(word)
        case "table":
            value = rows_of_word(word, integer_of)
        case "row" | "sum":
            value = parts_of(word, ",", integer_of)
        case _:
            return None
    return value if is_of(sort, value) else None


def told_of(word):
    """The told point of the word; None if it tells none, or not as points are told."""
    point = point_of(word, integer_of)
    return point if point is not None and point == told_point(point) else None


def read_spots(lines):
    """The Spots that the first lines tell, None without a point, and how many lines are right."""
    points = []
    for line in lines[1:]:
        point = told_of(line.removeprefix("spot ")) if line.startswith("spot ") else None
        if point is None or point in points or len(points) == MOST_POINTS:
            break
        points.append(point)
    return (Spots(points) if points else None), len(points) + 1


def read_form(word, lines):
    """The Form with the degree of the word that the first lines tell, None without a degree; and how many are right."""
    degree = integer_of(word)
    if degree is None or not 0 <= degree <= MOST_DEGREE:
        return None, 0
    terms = {}
    for line in lines[1:]:
        triple, number = read_term(line, degree)
        if triple is None or (terms and triple >= min(list(terms))):
            break
        terms[triple] = number
    return Form(degree, terms), len(terms) + 1


def read_term(line, degree):
    """The triple of this degree and the number, not 0, that the line tells; twice None if it tells none."""
    words = line.split(" ")
    if len(words) != 3 or words[0] != "term":
        return None, None
    triple, number = three_of(words[1], ":", integer_of), integer_of(words[2])
    if triple is None or min(triple) < 0 or sum(triple) != degree or number is None or number == 0:
        return None, None
    return triple, number
