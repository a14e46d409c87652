"""What a desk answers when it is asked."""

from pointrows.commands import word_of
from pointrows.conditions import conditions
from pointrows.counted import row_count
from pointrows.deeds import things_in
from pointrows.forms import Form
from pointrows.lines import lines_of, passed
from pointrows.moments import Moment, changes
from pointrows.ninth import ninth
from pointrows.parting import part_degrees
from pointrows.points import Spots, same_points
from pointrows.products import common_form, no_common
from pointrows.rows import end, numbers_of, top
from pointrows.sheds import all_late
from pointrows.still import still_places
from pointrows.tables import led
from pointrows.verdicts import is_all
from pointrows.wording import numbers_word, table_word, three_word


def answer(command, moment):
    """The answer to a command that changes nothing."""
    values = things_in(command, moment)
    match word_of(command):
        case "state":
            return moment.states[values[0]]
        case "states":
            return listed(changes(Moment({}, {}, {}), moment))
        case "claimed":
            return moment.notes[values[0]].line
        case "names":
            return spaced(sorted(list(moment.things)))
        case "shown":
            return shown(values[0])
        case "row" | "degrees" | "still" | "passed" | "lines":
            return spaced(words_told(word_of(command), values))
        case "top" | "end" | "asks" | "worth" | "rows" | "place":
            return number_told(word_of(command), values)
        case "late" | "whole" | "same" | "apart":
            return "yes" if is_so(word_of(command), values) else "no"
        case "ninth":
            return three_word(ninth(values[0]))
        case "led":
            return three_word(led(values[0], values[1]))
        case _:
            return shown(common_form(values[0], values[1]))


def listed(words):
    """The words with a comma and a blank between; a sign for none."""
    return ", ".join(words) if words else "-"


def spaced(words):
    """The words with blanks between; a sign for none."""
    return " ".join(words) if words else "-"


def shown(thing):
    """The thing, of whichever kind, in words."""
    if isinstance(thing, Spots):
        return "spots " + ",".join([three_word(point) for point in thing.points()])
    if isinstance(thing, Form):
        terms = thing.terms()
        words = [f"{three_word(triple)}*{terms[triple]}" for triple in terms]
        return f"form {thing.degree} " + (",".join(words) if words else "-")
    return "table " + table_word(thing)


def words_told(word, values):
    """The words of an answer that tells several numbers."""
    spots = values[0]
    match word:
        case "row":
            return [str(number) for number in numbers_of(spots)]
        case "degrees":
            return [str(degree) for degree in part_degrees(spots)]
        case "still":
            return [str(place) for place in still_places(spots)]
        case "passed":
            return [str(position) for position in passed(spots, values[1])]
        case _:
            return [numbers_word(positions) for positions in lines_of(spots)]


def number_told(word, values):
    """The word of an answer that tells one number, or `none`."""
    match word:
        case "top":
            return str(top(values[0]))
        case "end":
            return str(end(values[0]))
        case "asks":
            return str(conditions(values[0], values[1]))
        case "worth":
            return str(values[0].worth(values[1]))
        case "rows":
            return str(row_count(values[0]))
        case _:
            place = values[0].place(values[1])
            return "none" if place is None else str(place)


def is_so(word, values):
    """What an answer with yes or no asks."""
    match word:
        case "late":
            return all_late(values[0])
        case "whole":
            return is_all(values[0])
        case "same":
            return same_points(values[0], values[1])
        case _:
            return no_common(values[0], values[1])
