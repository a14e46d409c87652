"""A plain model of a desk: what each command makes and answers, told once more by the functions that the table names."""

from pointrows import claims, conditions, counted, errors, hidden, left, lines, ninth, parting, points, products, rows
from pointrows import sheds, stairs, still, tables, verdicts
from pointrows.forms import Form
from pointrows.nets import net
from pointrows.points import Spots

OWN = (errors.SpotError, errors.MissingError, errors.StateError, errors.LimitError)
FIRST_WORDS = ("all", "passes", "parts", "free", "row", "fails")


def ints(word):
    """The numbers with commas between."""
    return [int(part) for part in word.split(",")]


def point(word):
    """The point with colons between."""
    return tuple(int(part) for part in word.split(":"))


def point_list(word):
    """The points with commas between."""
    return [point(part) for part in word.split(",")]


def terms(word):
    """The terms with commas between."""
    return {} if word == "-" else {point(part.split("*")[0]): int(part.split("*")[1]) for part in word.split(",")}


def shown(thing):
    """The thing as `shown` tells it."""
    if isinstance(thing, Spots):
        return "spots " + ",".join("%d:%d:%d" % told for told in thing.points())
    if isinstance(thing, Form):
        told = ",".join("%d:%d:%d*%d" % (*triple, number) for triple, number in thing.terms().items())
        return f"form {thing.degree} {told or '-'}"
    return "table " + ";".join(",".join(map(str, row)) for row in thing)


def yes(value):
    """The answer for a truth."""
    return {True: "yes", False: "no"}[value]


class Model:
    """Things and the words of claims, with copies of both ahead of each deed."""

    def __init__(self):
        self.things, self.notes, self.done, self.undone = {}, {}, [], []

    def state(self, label):
        """The state, reckoned anew."""
        claim = self.claim(label)
        return {None: "gone", True: "true", False: "false"}[claim and claims.is_true(claim)]

    def claim(self, label):
        """The claim, None if there is none now."""
        claim = self.claim_by(self.notes[label].split(" "))
        return claim if claims.is_claim(claim) else None

    def claim_by(self, words):
        """The claim of these words; None stands for a thing that is not there."""
        word, *behind = words
        if word in ("row", "broken"):
            return (word, ints(behind[0]))
        thing = self.things.get(behind[0])
        if word in ("passes", "misses"):
            return (word, thing, point(behind[1]))
        return (word, thing, *[int(number) for number in behind[1:]])

    def states(self):
        """All states."""
        return {label: self.state(label) for label in self.notes}

    def new(self, name):
        """The name must be free."""
        if name in self.things:
            raise errors.NameTaken(name)

    def old(self, *wanted):
        """The things under names of the kinds that are wanted."""
        for name, _ in wanted:
            if name not in self.things:
                raise errors.UnknownName(name)
        for name, kinds in wanted:
            if not isinstance(self.things[name], kinds):
                raise errors.WrongThing(name)
        return [self.things[name] for name, _ in wanted]

    def noted(self, label):
        """The label must be there."""
        if label not in self.notes:
            raise errors.UnknownLabel(label)

    def do(self, command):
        """The answer, or the error."""
        word, *behind = command.split(" ")
        if word in ("undo", "redo"):
            here, there = (self.done, self.undone) if word == "undo" else (self.undone, self.done)
            if not here:
                raise errors.NothingToUndo() if word == "undo" else errors.NothingToRedo()
            line, things, notes = here.pop()
            there.append((line, self.things, self.notes))
            self.things, self.notes = things, notes
            return line
        if hasattr(self, "answer_" + word):
            return getattr(self, "answer_" + word)(*behind)
        states, ahead = self.states(), (command, dict(self.things), dict(self.notes))
        try:
            getattr(self, "deed_" + word)(*behind)
            for what, many, most in (("names", self.things, 10), ("labels", self.notes, 12), ("deeds", self.done + [0], 300)):
                if len(many) > most:
                    raise errors.TooMany(what, most)
        except OWN:
            self.things, self.notes = ahead[1:]
            raise
        self.done.append(ahead)
        self.undone = []
        told = [f"{label} {state}" for label, state in sorted(self.states().items()) if states.get(label) != state]
        return ", ".join(told) or "-"

    def deed_spots(self, name, word):
        self.new(name)
        self.things[name] = Spots(point_list(word))

    def deed_form(self, name, degree, word):
        self.new(name)
        self.things[name] = Form(int(degree), terms(word))

    def deed_table(self, name, word):
        self.new(name)
        told = tuple(tuple(ints(row)) for row in word.split(";"))
        if not tables.is_table(told):
            raise errors.InvalidTable(told)
        self.things[name] = told

    def deed_line(self, name, one, other):
        self.new(name)
        self.things[name] = lines.line_through(point(one), point(other))

    def deed_stair(self, name, word):
        self.new(name)
        self.things[name] = stairs.stair(ints(word))

    def deed_net(self, name, ones, others):
        self.new(name)
        ones, others = ones.split(","), others.split(",")
        found = self.old(*[(one, Form) for one in ones + others])
        self.things[name] = net(found[:len(ones)], found[len(ones):])

    def deed_copy(self, name, one):
        self.new(name)
        self.things[name] = self.old((one, object))[0]

    def deed_times(self, name, one, other):
        self.new(name)
        one, other = self.old((one, Form), (other, Form))
        self.things[name] = one * other

    def deed_plus(self, name, one, other):
        self.new(name)
        one, other = self.old((one, Form), (other, Form))
        self.things[name] = one + other

    def deed_put(self, name, one, other):
        self.new(name)
        self.things[name] = products.put_in(*self.old((one, Form), (other, tuple)))

    def deed_hidden(self, name, one, place):
        self.new(name)
        self.things[name] = hidden.hidden_form(*self.old((one, Spots)), int(place))

    def deed_rest(self, name, one, word):
        self.new(name)
        self.things[name] = left.rest(*self.old((one, Spots)), ints(word))

    def deed_move(self, one, other):
        thing, table = self.old((one, (Spots, Form)), (other, tuple))
        self.things[one] = tables.moved(thing, table) if isinstance(thing, Spots) else tables.form_moved(thing, table)

    def deed_add(self, one, word):
        self.things[one] = self.old((one, Spots))[0].with_point(point(word))

    def deed_take(self, one, position):
        self.things[one] = self.old((one, Spots))[0].without(int(position))

    def deed_drop(self, one):
        self.old((one, object))
        del self.things[one]

    def deed_claim(self, label, *behind):
        if label in self.notes:
            raise errors.LabelTaken(label)
        if behind[0] not in ("row", "broken"):
            self.old((behind[1], Form if behind[0] in ("passes", "misses") else Spots))
        claim = self.claim_by(behind)
        if not claims.is_claim(claim):
            raise errors.InvalidClaim(claim)
        self.notes[label] = " ".join(behind)

    def deed_forget(self, label):
        self.noted(label)
        del self.notes[label]

    def answer_state(self, label):
        self.noted(label)
        return self.state(label)

    def answer_states(self):
        return ", ".join(f"{label} {state}" for label, state in sorted(self.states().items())) or "-"

    def answer_claimed(self, label):
        self.noted(label)
        return self.notes[label]

    def answer_names(self):
        return " ".join(sorted(self.things)) or "-"

    def answer_shown(self, one):
        return shown(*self.old((one, object)))

    def numbers(self, function, one):
        """The answer of numbers with blanks between."""
        return " ".join(map(str, function(*self.old((one, Spots))))) or "-"

    def answer_row(self, one):
        return self.numbers(rows.row, one)

    def answer_degrees(self, one):
        return self.numbers(parting.part_degrees, one)

    def answer_still(self, one):
        return self.numbers(still.still_places, one)

    def answer_top(self, one):
        return str(rows.top(*self.old((one, Spots))))

    def answer_end(self, one):
        return str(rows.end(*self.old((one, Spots))))

    def answer_asks(self, one, degree):
        return str(conditions.conditions(*self.old((one, Spots)), int(degree)))

    def answer_lines(self, one):
        return " ".join(",".join(map(str, told)) for told in lines.lines_of(*self.old((one, Spots)))) or "-"

    def answer_late(self, one):
        return yes(sheds.all_late(*self.old((one, Spots))))

    def answer_whole(self, one):
        return yes(verdicts.is_all(*self.old((one, Spots))))

    def answer_ninth(self, one):
        return "%d:%d:%d" % ninth.ninth(*self.old((one, Spots)))

    def answer_place(self, one, word):
        place = self.old((one, Spots))[0].place(point(word))
        return "none" if place is None else str(place)

    def answer_same(self, one, other):
        return yes(points.same_points(*self.old((one, Spots), (other, Spots))))

    def answer_passed(self, one, other):
        return " ".join(map(str, lines.passed(*self.old((one, Spots), (other, Form))))) or "-"

    def answer_worth(self, one, word):
        return str(self.old((one, Form))[0].worth(point(word)))

    def answer_apart(self, one, other):
        return yes(products.no_common(*self.old((one, Form), (other, Form))))

    def answer_common(self, one, other):
        return shown(products.common_form(*self.old((one, Form), (other, Form))))

    def answer_led(self, one, word):
        return "%d:%d:%d" % tables.led(*self.old((one, tuple)), point(word))

    def answer_rows(self, many):
        return str(counted.row_count(int(many)))
