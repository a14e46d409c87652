"""Names, and which strings are commands and deeds by their words alone."""

import unittest

from pointrows.commands import is_command, is_deed, is_name
from pointrows.forms import Form
from tests.helpers import NO_INTEGERS, Odd, told_twice
from tests.samples import SAMPLES

NO_STRINGS = [value for value in NO_INTEGERS if not isinstance(value, str)] + [
    0, 7, 10 ** 29, ["names"], ("names",), {"names": 1}, b"names", Form(1, {}), SAMPLES["one"], ["undo"], "names".split(), Odd()]
# Each command of the table by what stands behind its word: N and O stand for names, C for a COUNT, L for COUNTS, P for a
# POINT, PP for POINTS, T for TERMS, R for ROWS, M for NAMES.
DEEDS = {
    "spots": "N PP", "form": "N C T", "table": "N R", "line": "N P P", "stair": "N L", "net": "N M M", "copy": "N N",
    "times": "N N N", "plus": "N N N", "put": "N N N", "hidden": "N N C", "rest": "N N L", "move": "N N", "add": "N P",
    "take": "N C", "drop": "N", "forget": "N",
}
OTHERS = {
    "undo": "", "redo": "", "state": "N", "states": "", "claimed": "N", "names": "", "shown": "N", "row": "N", "top": "N",
    "end": "N", "degrees": "N", "still": "N", "asks": "N C", "lines": "N", "late": "N", "whole": "N", "ninth": "N",
    "place": "N P", "same": "N N", "passed": "N N", "worth": "N P", "apart": "N N", "common": "N N", "led": "N P",
    "rows": "C",
}
CLAIMS = {
    "all": "N", "bars": "N", "passes": "N P", "misses": "N P", "parts": "N C C", "stays": "N C C", "free": "N C",
    "bound": "N C", "row": "L", "broken": "L", "fails": "N C", "holds": "N C",
}
BAD_COUNTS = ["", "-", "-1", "-0", "01", "00", "+1", "1.0", "x", "1x", "1" * 31, "0" * 30, "1_0", "1:2", "1,", ",1", "one", "1;2"]
BAD_NUMBERS = ["", "-", "--1", "-0", "01", "-01", "00", "+1", "1.0", "x", "1234567", "-1234567", "1_0", "1e3", "- 1"]
BAD_NAMES = ["", "A", "aB", "1", "1a", "a_", "a-b", "abcdefghi", "_a", "a.", "a:b", "9", "-", "a\n", "*"]
# For each kind words that are of it, words that are not.
WORDS = {
    "N": (["a", "z9", "abcdefgh", "a1234567", "spots", "all", "none"], BAD_NAMES + ["a,b", "a,"]),
    "C": (["0", "7", "10", "9" * 30, "1" + "0" * 29], BAD_COUNTS + ["1,2"]),
    "L": (["0", "7", "1,2,3", "5,5", "9" * 30 + ",0", ",".join("1" * 24)],
          BAD_COUNTS + ["1,,2", "1,-2", "1,02", "1,2,", ",".join("1" * 25), "1,x", "a"]),
    "P": (["0:0:1", "2:4:2", "-999999:0:999999", "0:-1:0"],
          ["", "0:0:0", "0:0", "0:0:1:1", "0,0,1", ":0:1", "0:0:", "a", "5", "0:0:1,1:0:1", "1:-0:1", "0:0:-0"]
          + [word + ":0:1" for word in BAD_NUMBERS] + ["1:0:" + word for word in BAD_NUMBERS]),
    "PP": (["0:0:1", "0:0:1,2:0:2", "0:0:1,0:0:1", ",".join(["1:1:1"] * 24)],
           ["", "-", "0:0:0", "0:0:1,", ",0:0:1", "0:0:1,0:0:0", "0:0:1,,1:0:1", "0:0:1,1:0", "0:0:1;1:0:1", ",".join(["1:1:1"] * 25),
            "0:0:1234567", "a"]),
    "T": (["-", "1:0:1*1", "1:0:1*1,0:2:0*-3", "1:0:0*0", "9:9:9*5,1:1:1*-999999", "0:0:0*7", "9" * 30 + ":0:0*1",
           ",".join(f"{i}:0:0*1" for i in range(91))],
          ["", "--", "-,", "1:0:1", "1:0:1*", "*1", "1:0*1", "1:0:1:0*1", "1:0:1*1,", "1:0:1*1,1:0:1*2", "1:0:1*1,0:1:1*1,1:0:1*1",
           "1:0:1*1*1", "-1:0:1*1", "1:0:01*1", "1:0:1*01", "1:0:1*-0", "1:0:1*1234567", "1:0:1*1,-", "1:0:1*x", "x", "1:0:1+1",
           "1" * 31 + ":0:0*1", ",".join(f"{i}:0:0*1" for i in range(92)), "1:0:1*1;0:2:0*-3", "1,0,1*1"]),
    "R": (["1,0,0;0,1,0;0,0,1", "0,0,0;0,0,0;0,0,0", "1,2,3;4,5,6;7,8,9", "-999999,0,0;0,1,0;0,0,999999"],
          ["", "1", "1,0,0;0,1,0", "1,0,0;0,1,0;0,0,1;0,0,0", "1,0;0,1;0,0", "1,0,0,0;0,1,0;0,0,1", "1:0:0;0:1:0;0:0:1",
           "1,0,0,0,1,0,0,0,1", "1,0,0;0,1,0;0,0,1;", ";1,0,0;0,1,0;0,0,1", "1,0,0;0,1,0;0,0,x", "1,0,0;0,1,0;0,0,", "a",
           "1,0,0;0,1,0;0,0,-0", "1,0,0;0,1,0;0,0,01", "1,0,0;0,1,0;0,0,1234567"]),
    "M": (["a", "a,b", "a,a", "abcdefgh,z9", ",".join("abcdefgh")], BAD_NAMES + ["a,", ",a", "a,,b", "a,1", "a;b", ",".join("abcdefghi")]),
}


def tables():
    """The word, or words, of each command, the kinds behind, and whether it is a deed."""
    for word, kinds in DEEDS.items():
        yield word, kinds.split(), True
    for word, kinds in OTHERS.items():
        yield word, kinds.split(), False
    for word, kinds in CLAIMS.items():
        yield "claim label " + word, kinds.split(), True


class Names(unittest.TestCase):

    def test_names(self):
        for value in WORDS["N"][0] + ["a" * 8, "q", "x0", "undo"]:
            self.assertIs(is_name(value), True)
        for value in BAD_NAMES + ["a b", " a", "a ", "aa,b", "a" * 9, "a" * 4000] + NO_STRINGS:
            self.assertIs(is_name(value), False)
        self.assertEqual([is_name(value="a"), is_name(value=["a"])], [True, False])

    def test_each_sign(self):
        for at in range(32, 127):
            if chr(at) != "%":
                small = chr(at) in "abcdefghijklmnopqrstuvwxyz"
                self.assertIs(is_name(chr(at)), small)
                self.assertIs(is_name("b" + chr(at)), small or chr(at) in "0123456789")


class Commands(unittest.TestCase):

    def look(self, command, wanted, deed):
        """Whether it is a command and, if so, a deed."""
        self.assertIs(is_command(command), wanted, command)
        self.assertIs(is_deed(command), wanted and deed, command)

    def test_each_word(self):
        for words, kinds, deed in tables():
            good = [WORDS[kind][0][0] for kind in kinds]
            self.look(" ".join([words, *good]), True, deed)
            for at, kind in enumerate(kinds):
                for word in WORDS[kind][0]:
                    self.look(" ".join([words, *good[:at], word, *good[at + 1:]]), True, deed)
                for word in WORDS[kind][1]:
                    self.look(" ".join([words, *good[:at], word, *good[at + 1:]]), False, deed)

    def test_blanks_and_more_words(self):
        for words, kinds, deed in tables():
            good = " ".join([words] + [WORDS[kind][0][0] for kind in kinds])
            for text in (good + " ", " " + good, good + "  ", good + "\n", good + " a", good + " 1", good + " -", good + "\n" + good,
                         good.upper(), "claim " + good, "x" + good, good.replace(" ", "  ", 1) + " " * (" " not in good), "\n" + good):
                self.look(text, False, deed)
            split = good.split(" ")
            for at in range(len(split)):
                if len(split) > 1 and not (split[0] in ("state",) and at == 1):
                    self.look(" ".join(split[:at] + split[at + 1:]), False, deed)
            for at in range(1, len(split)):
                self.look(" ".join(split[:at]) + "  " + " ".join(split[at:]), False, deed)
                self.look(" ".join(split[:at]) + " ", False, deed)

    def test_claims(self):
        for word in BAD_NAMES:
            self.look(f"claim {word} all s", False, True)
        for word in ("none", "", "claim", "spots", "All", "alls", "label", "x", "passed", "1"):
            self.look(f"claim c {word} s", False, True)
        for text in ("claim", "claim c", "claim c all", "claim all s", "claim c all s t", "claim c parts s 0", "claim c parts s 0 1 2",
                     "claim c row s", "claim c row", "claim c row -", "claim c all 1", "claim c passes f", "claim c passes 0:0:1 f",
                     "claim c free s -1", "claim  c all s", "claim c  all s", "claim c all  s"):
            self.look(text, False, True)
        for text in ("claim c parts s 0 2", "claim all all all", "claim c row 1,3", "claim c broken 0", "claim c holds s " + "9" * 30,
                     "claim c passes f 2:4:2"):
            self.look(text, True, True)

    def test_some(self):
        for text, wanted in (("spots s 0:0:1,2:0:2", True), ("spots s 0:0:0", False), ("form f 2 1:0:1*1,0:2:0*-3", True),
                             ("form f 2 1:0:1*1,1:0:1*2", False), ("add s 1:-0:1", False), ("form f 99 -", True),
                             ("form f 2 5:5:5*0", True), ("table t 0,0,0;0,0,0;0,0,0", True), ("stair s 5,0,9", True),
                             ("rest r s 7,7,7", True), ("net n a b", True), ("rows 0", True), ("rows", False), ("undo 1", False)):
            self.look(text, wanted, text.split()[0] not in ("rows", "undo"))
        self.assertEqual([is_deed("take s 3"), is_deed("row s"), is_command("claim c parts s 0 2"), is_command("claim c parts s 0")],
                         [True, False, True, False])
        self.assertEqual([is_command(value="undo"), is_deed(value="undo"), is_deed(value="drop a")], [True, False, True])

    def test_no_commands(self):
        for text in ("", " ", "\n", "-", "x", "claim", "spots", "help", "Undo", "undo\n", "undo undo", "states s", "state", "names\n",
                     "spot s 0:0:1", "do undo", "0", "shown", "shown a b", "led a", "move a", "copy a", "copy a b c"):
            self.look(text, False, False)
        for value in NO_STRINGS:
            self.look(value, False, False)

    def test_twice(self):
        for value in ("undo", "take s 3", "row s", "take s", None, ["undo"]):
            for function in (is_name, is_command, is_deed):
                told_twice(self, function, value)


if __name__ == "__main__":
    unittest.main()
