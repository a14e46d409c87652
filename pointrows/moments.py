"""What a desk keeps at one time, and the states of its claims. Nothing here is changed once it is made."""

from pointrows.claims import is_claim, is_true
from pointrows.commands import CLAIM_SHAPES


class Moment:
    """Things by names, and notes and states by labels, as deeds leave them."""

    def __init__(self, things, notes, states):
        self.things = things
        self.notes = notes
        self.states = states


class Note:
    """A claim that is noted: its words, the first one, and what those behind it tell."""

    def __init__(self, line, word, told):
        self.line = line
        self.word = word
        self.told = told


class Memory:
    """A moment, papers by labels, and the deeds that can be taken back and done again, with the moments of then."""

    def __init__(self, now, papers, done, undone):
        self.now = now
        self.papers = papers
        self.done = done
        self.undone = undone


def first_memory():
    """What a new desk keeps."""
    return Memory(Moment({}, {}, {}), {}, (), ())


def parts_told(note, things):
    """The tuple of the note's word and parts, with what is kept now under its name; it may be no claim."""
    parts = [part_told(kind, told, things) for kind, told in zip(CLAIM_SHAPES[note.word], note.told)]
    return (note.word, *parts)


def part_told(kind, told, things):
    """The part of a claim of this kind: what is kept under a name, None if nothing is; else what was told."""
    if kind in ("spots", "form"):
        return things.get(told)
    return list(told) if kind == "counts" else told


def state_of(note, things):
    """The state of the note's claim."""
    claim = parts_told(note, things)
    if not is_claim(claim):
        return "gone"
    return "true" if is_true(claim) else "false"


def with_things(moment, things, name):
    """The moment with these things, which differ only under the name: states hang on what is kept under names."""
    states = {}
    for label in moment.states:
        note = moment.notes[label]
        states[label] = state_of(note, things) if name in note.told else moment.states[label]
    return Moment(things, moment.notes, states)


def with_thing(moment, name, thing):
    """The moment with the thing under the name."""
    return with_things(moment, {**moment.things, name: thing}, name)


def without_thing(moment, name):
    """The moment with nothing under the name."""
    return with_things(moment, without_key(moment.things, name), name)


def with_note(moment, label, note):
    """The moment with the note under the label."""
    states = {**moment.states, label: state_of(note, moment.things)}
    return Moment(moment.things, {**moment.notes, label: note}, states)


def without_note(moment, label):
    """The moment with no note under the label."""
    return Moment(moment.things, without_key(moment.notes, label), without_key(moment.states, label))


def without_key(table, key):
    """A copy of the dict without the key."""
    return {other: table[other] for other in table if other != key}


def changes(ahead, behind):
    """The list of the labels with their states, sorted, whose state behind is another one than ahead."""
    states = behind.states
    return [f"{label} {states[label]}" for label in sorted(list(states)) if ahead.states.get(label) != states[label]]
