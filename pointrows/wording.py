"""Words for numbers and points: how they are written, and what they tell; None for what is no such word."""

from pointrows.points import told_point

MOST_FIGURES = 6
MOST_COUNT_FIGURES = 30


def integer_of(word):
    """The INTEGER that the word tells."""
    figures = word.removeprefix("-")
    if not is_figures(figures) or (figures[0] == "0" and word != "0"):
        return None
    return int(word)


def is_figures(word):
    """Whether the word has figures only, and one or more."""
    return word.isascii() and word.isdigit()


def number_of(word):
    """The NUMBER that the word tells: an INTEGER of few figures."""
    if len(word.removeprefix("-")) > MOST_FIGURES:
        return None
    return integer_of(word)


def count_of(word):
    """The COUNT that the word tells: one of not too many figures."""
    if len(word) > MOST_COUNT_FIGURES or not is_figures(word):
        return None
    return integer_of(word)


def parts_of(word, sign, part_of):
    """The list of what the parts between the signs tell, part by part."""
    told = [part_of(part) for part in word.split(sign)]
    return None if None in told else told


def three_of(word, sign, part_of):
    """The tuple of what three parts between the signs tell."""
    told = parts_of(word, sign, part_of)
    return tuple(told) if told is not None and len(told) == 3 else None


def point_of(word, part_of):
    """The three numbers, not all 0, that the word tells, as they stand there."""
    numbers = three_of(word, ":", part_of)
    return numbers if numbers is not None and any(numbers) else None


def rows_of_word(word, part_of):
    """The tuple of three tuples of three numbers that the word tells."""
    rows = parts_of(word, ";", lambda part: three_of(part, ",", part_of))
    return tuple(rows) if rows is not None and len(rows) == 3 else None


def three_word(numbers):
    """The word for three numbers as they are."""
    return ":".join([str(number) for number in numbers])


def point_word(point):
    """The word for a point, as it is told."""
    return three_word(told_point(point))


def numbers_word(numbers):
    """The word for some numbers."""
    return ",".join([str(number) for number in numbers])


def table_word(table):
    """The word for a table."""
    return ";".join([numbers_word(row) for row in table])
