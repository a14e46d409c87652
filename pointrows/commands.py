"""Commands of a desk: which strings they are, and what their words tell."""

from pointrows.wording import count_of, number_of, parts_of, point_of, rows_of_word, three_of

MOST_SIGNS = 8
LETTERS_AND_FIGURES = "abcdefghijklmnopqrstuvwxyz0123456789"
MOST_NAMES = 8
MOST_COUNTS = 24
MOST_TERMS = 91

# What stands behind the words of commands. A name is told by what is to be kept under it: nothing yet (`new`), spots, a
# form, a table, spots or a form (`movable`), anything (`thing`), forms under several names (`forms`).
SHAPES = {
    "spots": ("new", "points"), "form": ("new", "count", "terms"), "table": ("new", "rows"),
    "line": ("new", "point", "point"), "stair": ("new", "counts"), "net": ("new", "forms", "forms"),
    "copy": ("new", "thing"), "times": ("new", "form", "form"), "plus": ("new", "form", "form"),
    "put": ("new", "form", "table"), "hidden": ("new", "spots", "count"), "rest": ("new", "spots", "counts"),
    "move": ("movable", "table"), "add": ("spots", "point"), "take": ("spots", "count"), "drop": ("thing",),
    "forget": ("label",), "undo": (), "redo": (), "state": ("label",), "states": (), "claimed": ("label",),
    "names": (), "shown": ("thing",), "row": ("spots",), "top": ("spots",), "end": ("spots",), "degrees": ("spots",),
    "still": ("spots",), "asks": ("spots", "count"), "lines": ("spots",), "late": ("spots",), "whole": ("spots",),
    "ninth": ("spots",), "place": ("spots", "point"), "same": ("spots", "spots"), "passed": ("spots", "form"),
    "worth": ("form", "point"), "apart": ("form", "form"), "common": ("form", "form"), "led": ("table", "point"),
    "rows": ("count",),
}
# What stands behind the words of claims, which stand behind `claim` and a label.
CLAIM_SHAPES = {
    "all": ("spots",), "bars": ("spots",), "passes": ("form", "point"), "misses": ("form", "point"),
    "parts": ("spots", "count", "count"), "stays": ("spots", "count", "count"), "free": ("spots", "count"),
    "bound": ("spots", "count"), "row": ("counts",), "broken": ("counts",), "fails": ("spots", "count"),
    "holds": ("spots", "count"),
}
DEEDS = ("spots", "form", "table", "line", "stair", "net", "copy", "times", "plus", "put", "hidden", "rest", "move",
         "add", "take", "drop", "claim", "forget")


def is_name(value):
    """Whether any value is a name: one to eight small letters and figures, the first one a letter."""
    if not isinstance(value, str) or not 1 <= len(value) <= MOST_SIGNS:
        return False
    return value[0].isalpha() and all([sign in LETTERS_AND_FIGURES for sign in value])


def is_command(value):
    """Whether any value is a string that is a command by its words alone."""
    return isinstance(value, str) and values_of(value) is not None


def is_deed(value):
    """Whether any value is a command that is a deed."""
    return is_command(value) and word_of(value) in DEEDS


def word_of(command):
    """The first word."""
    return command.partition(" ")[0]


def shape_of(command):
    """The kinds of what is to stand behind the first word; None if there is no such command."""
    words = command.split(" ")
    if words[0] != "claim":
        return SHAPES.get(words[0])
    if len(words) < 3 or words[2] not in CLAIM_SHAPES:
        return None
    return ("noted", "word") + CLAIM_SHAPES[words[2]]


def values_of(command):
    """The list of what the words behind the first one tell, word by word; None if the string is no command."""
    words, shape = command.split(" ")[1:], shape_of(command)
    if shape is None or len(shape) != len(words):
        return None
    values = [value_of(kind, word) for kind, word in zip(shape, words)]
    return None if None in values else values


def value_of(kind, word):
    """What the word tells, if it is to be of the kind; None if it is not."""
    match kind:
        case "count":
            return count_of(word)
        case "counts":
            return at_most(MOST_COUNTS, parts_of(word, ",", count_of))
        case "point":
            return point_of(word, number_of)
        case "points":
            return at_most(MOST_COUNTS, parts_of(word, ",", lambda part: point_of(part, number_of)))
        case "rows":
            return rows_of_word(word, number_of)
        case "terms":
            return terms_of_word(word)
        case "forms":
            return at_most(MOST_NAMES, parts_of(word, ",", name_of))
        case "word":
            return word
        case _:
            return name_of(word)


def name_of(word):
    """The name that the word is; None if it is none."""
    return word if is_name(word) else None


def at_most(most, values):
    """The values, None if they are more than the greatest number of them, or None."""
    return values if values is not None and len(values) <= most else None


def terms_of_word(word):
    """The dict of the terms that the word tells, also of those with 0; None if it tells none."""
    if word == "-":
        return {}
    pairs = at_most(MOST_TERMS, parts_of(word, ",", term_of))
    if pairs is None:
        return None
    terms = {triple: number for triple, number in pairs}
    return terms if len(terms) == len(pairs) else None


def term_of(word):
    """The tuple of the triple and the number that the word tells."""
    triple_word, _, number_word = word.partition("*")
    triple, number = three_of(triple_word, ":", count_of), number_of(number_word)
    return None if triple is None or number is None else (triple, number)
