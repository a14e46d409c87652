"""A desk: things under names and claims under labels, with deeds that can be taken back, and blocks on trial."""

from pointrows.answers import answer, listed
from pointrows.basics import is_list
from pointrows.claims import contrary, is_claim, is_paper_of
from pointrows.commands import DEEDS, is_command, is_deed, is_name, word_of
from pointrows.deeds import behind_deed, check_limits, check_names
from pointrows.errors import (
    CommandFailed, InvalidCommand, InvalidLines, InvalidPaper, LimitError, MissingError, NothingToRedo, NothingToUndo,
    SpotError, StateError, UnknownLabel, UnknownName,
)
from pointrows.moments import Memory, changes, first_memory, parts_told


class Desk:
    """Things under names, claims under labels, and the deeds that led there."""

    def __init__(self):
        # All that the desk keeps. It is replaced whole, so that one that was kept elsewhere brings everything back.
        self.memory = first_memory()

    @property
    def names(self):
        """The sorted list of the names under which things are kept."""
        return sorted(list(self.memory.now.things))

    @property
    def labels(self):
        """The sorted list of the labels under which claims are noted."""
        return sorted(list(self.memory.now.notes))

    def __len__(self):
        return len(self.memory.done)

    def __contains__(self, name):
        return is_name(name) and name in self.memory.now.things

    def __getitem__(self, name):
        if not is_name(name) or name not in self.memory.now.things:
            raise UnknownName(name)
        return self.memory.now.things[name]

    def __iter__(self):
        raise TypeError("a desk is not iterated over")

    def note_of(self, label):
        """The note under the label, which is any value."""
        if not is_name(label) or label not in self.memory.now.notes:
            raise UnknownLabel(label)
        return self.memory.now.notes[label]

    def claim_of(self, label):
        """The claim under the label, of what is kept now; None while its state is gone."""
        claim = parts_told(self.note_of(label), self.memory.now.things)
        return claim if is_claim(claim) else None

    def do(self, command):
        """Does what the command tells, and answers; if it fails, nothing is changed."""
        if not is_command(command):
            raise InvalidCommand(command)
        check_names(command, self.memory.now)
        word = word_of(command)
        if word == "undo":
            return self.take_back()
        if word == "redo":
            return self.do_again()
        return self.do_deed(command) if word in DEEDS else answer(command, self.memory.now)

    def __call__(self, command):
        return self.do(command)

    def do_deed(self, command):
        """Does the deed, and tells which states it changed."""
        memory = self.memory
        behind = behind_deed(command, memory.now)
        check_limits(behind, len(memory.done) + 1)
        self.memory = Memory(behind, memory.papers, (*memory.done, (command, memory.now)), ())
        return listed(changes(memory.now, behind))

    def take_back(self):
        """Takes the last deed back, and tells its line."""
        memory = self.memory
        if not memory.done:
            raise NothingToUndo()
        line, ahead = memory.done[-1]
        self.memory = Memory(ahead, memory.papers, memory.done[:-1], (*memory.undone, (line, memory.now)))
        return line

    def do_again(self):
        """Does the last deed that was taken back again, and tells its line."""
        memory = self.memory
        if not memory.undone:
            raise NothingToRedo()
        line, behind = memory.undone[-1]
        self.memory = Memory(behind, memory.papers, (*memory.done, (line, memory.now)), memory.undone[:-1])
        return line

    def do_all(self, *commands):
        """The list of the answers to the commands; if one fails, none has an effect."""
        ahead = self.memory
        answers = []
        for position, command in enumerate(commands):
            try:
                answers.append(self.do(command))
            except (SpotError, MissingError, StateError, LimitError) as error:
                self.memory = ahead
                raise CommandFailed(position) from error
        return answers

    def attempt(self, *commands):
        """The list of the answers to the commands, after which all is as before."""
        ahead = self.memory
        answers = self.do_all(*commands)
        self.memory = ahead
        return answers

    def attach(self, label, paper):
        """Keeps the paper, of the label's claim or of its contrary, with the label."""
        note, claim = self.note_of(label), self.claim_of(label)
        if claim is None:
            raise InvalidPaper(paper)
        shown = [one for one in (claim, contrary(claim)) if is_paper_of(one, paper)]
        if not shown:
            raise InvalidPaper(paper)
        memory = self.memory
        papers = {**memory.papers, label: (note.line, shown[0][0], copied(paper))}
        self.memory = Memory(memory.now, papers, memory.done, memory.undone)

    def fits(self, label):
        """Whether the paper that is kept with the label for its words is still one of what it was kept for."""
        note, claim = self.note_of(label), self.claim_of(label)
        if claim is None or label not in self.memory.papers:
            return False
        line, word, paper = self.memory.papers[label]
        shown = claim if claim[0] == word else contrary(claim)
        return line == note.line and is_paper_of(shown, paper)

    def lines(self):
        """The list of the lines of the deeds that are not taken back."""
        return [line for line, _ in self.memory.done]

    def copy(self):
        """A desk with all that this one keeps, that goes on by itself."""
        desk = Desk()
        desk.memory = self.memory
        return desk

    @classmethod
    def again(cls, lines):
        """A desk that has done these deeds."""
        if not is_list(lines):
            raise InvalidLines(None)
        for position, line in enumerate(lines):
            if not is_deed(line):
                raise InvalidLines(position)
        desk = cls()
        desk.do_all(*lines)
        return desk


def copied(value):
    """The value, with copies of the lists in it."""
    if isinstance(value, list):
        return [copied(one) for one in value]
    return tuple([copied(one) for one in value]) if isinstance(value, tuple) else value


class Trial:
    """A block behind which all of a desk is as it was ahead of it."""

    def __init__(self, desk):
        self.desk = desk
        self.ahead = desk.memory

    def __enter__(self):
        self.ahead = self.desk.memory
        return self.desk

    def __exit__(self, kind, value, trace):
        self.desk.memory = self.ahead


def tried(desk, action):
    """What the function returns for the desk, whose changes do not last."""
    with Trial(desk) as held:
        return action(held)
