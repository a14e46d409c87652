"""The errors: their attributes, and the classes that they come of."""

import inspect
import unittest

from pointrows import errors
from tests.helpers import Odd

LISTED = {
    "ValueError": "SpotError",
    "SpotError": (
        "InvalidDegree(value), InvalidForm(value), InvalidMany(value), InvalidNumber(value), InvalidPoint(value), "
        "InvalidPosition(value), InvalidRow(value), InvalidSpots(value), InvalidTable(value), InvalidClaim(value), "
        "InvalidCommand(value), InvalidCounts(value), InvalidLengths(value), InvalidLetter(value), "
        "InvalidLine(value), InvalidLines(position), InvalidOthers(position), InvalidPaper(value), "
        "InvalidPlace(value), InvalidPoints(position), InvalidPositions(value), InvalidSort(value), "
        "InvalidTerms(value), InvalidText(line), InvalidThing(value)"
    ),
    "LookupError": "MissingError",
    "MissingError": "UnknownLabel(value), UnknownName(value)",
    "RuntimeError": "StateError",
    "StateError": (
        "NoughtForm(), UnlikeDegrees(), OneLeft(), NotStill(), BoxTooGreat(), CommandFailed(position), "
        "LabelTaken(label), NameTaken(name), NoBox(), NoNinth(), NotAll(), NotApart(), NotEight(), NotFew(), "
        "NotFour(), NothingToRedo(), NothingToUndo(), PointThere(), SameLine(), SamePoint(), WrongThing(name)"
    ),
    "ArithmeticError": "LimitError",
    "LimitError": "TooMany(what/limit)",
}
PYTHONS = {"ValueError": ValueError, "LookupError": LookupError, "RuntimeError": RuntimeError,
           "ArithmeticError": ArithmeticError}
ANY = [None, True, 0, -5, 10 ** 700, "", "x", b"", [], [1], (), (1, 2), {}, {1: 2}, set(), object(), int, Odd()]


def listed_errors():
    """For each listed error its base class, its name and the names of its attributes."""
    for base, names in LISTED.items():
        for told in names.split(", "):
            name, _, behind = told.partition("(")
            yield base, name, [attribute for attribute in behind.rstrip(")").split("/") if attribute]


class Errors(unittest.TestCase):

    def test_bases(self):
        for base, name, _ in listed_errors():
            wanted = PYTHONS[base] if base in PYTHONS else getattr(errors, base)
            self.assertEqual(getattr(errors, name).__bases__, (wanted,), name)

    def test_there_are_just_these(self):
        made = [name for name, value in vars(errors).items() if inspect.isclass(value)]
        self.assertEqual(sorted(made), sorted(name for _, name, _ in listed_errors()))

    def test_attributes(self):
        for _, name, attributes in listed_errors():
            made = getattr(errors, name)
            for value in ANY:
                values = [value for _ in attributes]
                named = dict(zip(attributes, values))
                for error in (made(*values), made(**named)):
                    for attribute in attributes:
                        self.assertIs(getattr(error, attribute), value)
                    self.assertEqual(sorted(vars(error)), sorted(attributes))

    def test_two_attributes(self):
        for error in (errors.TooMany("points", 24), errors.TooMany(limit=24, what="points")):
            self.assertEqual((error.what, error.limit), ("points", 24))

    def test_raised_and_caught(self):
        for base, name, attributes in listed_errors():
            with self.assertRaises(PYTHONS[base] if base in PYTHONS else getattr(errors, base)) as caught:
                raise getattr(errors, name)(*[7 for _ in attributes])
            self.assertIs(type(caught.exception), getattr(errors, name))


if __name__ == "__main__":
    unittest.main()
