"""What deeds make of what a desk keeps, and the errors of the names and labels in commands."""

from pointrows.checks import check_table
from pointrows.claims import is_claim
from pointrows.commands import shape_of, values_of, word_of
from pointrows.errors import InvalidClaim, LabelTaken, NameTaken, TooMany, UnknownLabel, UnknownName, WrongThing
from pointrows.forms import Form
from pointrows.hidden import hidden_form
from pointrows.left import rest
from pointrows.lines import line_through
from pointrows.moments import Note, parts_told, with_note, with_thing, without_note, without_thing
from pointrows.nets import net
from pointrows.points import Spots
from pointrows.products import put_in
from pointrows.stairs import stair
from pointrows.tables import form_moved, moved

MOST_NAMES = 10
MOST_LABELS = 12
MOST_DEEDS = 300
KEPT_KINDS = ("spots", "form", "table", "movable", "thing")


def names_in(command):
    """The list of the tuples of a kind and a name, a label or what is told, as they stand in the command."""
    found = []
    for kind, value in zip(shape_of(command), values_of(command)):
        if kind == "forms":
            found.extend([("form", name) for name in value])
        else:
            found.append((kind, value))
    return found


def check_names(command, moment):
    """The errors of the command's names and labels."""
    names = names_in(command)
    for kind, name in names:
        if kind == "new" and name in moment.things:
            raise NameTaken(name)
        if kind == "noted" and name in moment.notes:
            raise LabelTaken(name)
    for kind, name in names:
        if kind in KEPT_KINDS and name not in moment.things:
            raise UnknownName(name)
        if kind == "label" and name not in moment.notes:
            raise UnknownLabel(name)
    for kind, name in names:
        if kind in KEPT_KINDS and not is_kept_as(kind, moment.things[name]):
            raise WrongThing(name)


def is_kept_as(kind, thing):
    """Whether the thing is of the kind that is wanted."""
    match kind:
        case "spots":
            return isinstance(thing, Spots)
        case "form":
            return isinstance(thing, Form)
        case "table":
            return isinstance(thing, tuple)
        case "movable":
            return not isinstance(thing, tuple)
        case _:
            return True


def things_in(command, moment):
    """The list of what the words behind the first one tell, things in the place of their names."""
    return [thing_for(kind, value, moment.things) for kind, value in zip(shape_of(command), values_of(command))]


def thing_for(kind, value, things):
    """What the value of this kind stands for."""
    if kind == "forms":
        return [things[name] for name in value]
    return things[value] if kind in KEPT_KINDS else value


def behind_deed(command, moment):
    """The moment behind the deed."""
    word, values = word_of(command), values_of(command)
    match word:
        case "claim":
            return behind_claim(command, moment)
        case "forget":
            return without_note(moment, values[0])
        case "drop":
            return without_thing(moment, values[0])
        case "move" | "add" | "take":
            return with_thing(moment, values[0], changed(word, things_in(command, moment)))
        case _:
            return with_thing(moment, values[0], made(word, things_in(command, moment)[1:]))


def behind_claim(command, moment):
    """The moment with the claim of the command noted."""
    label, word, *told = values_of(command)
    note = Note(command.split(" ", 2)[2], word, told)
    claim = parts_told(note, moment.things)
    if not is_claim(claim):
        raise InvalidClaim(claim)
    return with_note(moment, label, note)


def changed(word, values):
    """What a deed with this word makes of a thing."""
    thing, other = values
    match word:
        case "add":
            return thing.with_point(other)
        case "take":
            return thing.without(other)
        case _:
            return moved(thing, other) if isinstance(thing, Spots) else form_moved(thing, other)


def made(word, values):
    """The new thing that a deed with this word makes."""
    match word:
        case "spots":
            return Spots(*values)
        case "form":
            return Form(*values)
        case "table":
            return table_of(*values)
        case "line":
            return line_through(*values)
        case "stair":
            return stair(*values)
        case "net":
            return net(*values)
        case "times":
            return values[0] * values[1]
        case "plus":
            return values[0] + values[1]
        case "put":
            return put_in(*values)
        case "hidden":
            return hidden_form(*values)
        case "rest":
            return rest(*values)
        case _:
            return values[0]


def table_of(rows):
    """The rows, if they are a table."""
    check_table(rows)
    return rows


def check_limits(moment, deeds):
    """TooMany if the names, the labels or the deeds are too many."""
    if len(moment.things) > MOST_NAMES:
        raise TooMany("names", MOST_NAMES)
    if len(moment.notes) > MOST_LABELS:
        raise TooMany("labels", MOST_LABELS)
    if deeds > MOST_DEEDS:
        raise TooMany("deeds", MOST_DEEDS)
