"""A desk: commands and their answers and errors, states, deeds taken back, papers, copies and trials."""

import unittest

from pointrows.claims import contrary, is_claim, is_paper_of, paper_of
from pointrows.commands import is_command, is_deed
from pointrows.desk import Desk, Trial, tried
from pointrows.errors import (CommandFailed, InvalidClaim, InvalidCommand, InvalidDegree, InvalidLines, InvalidMany, InvalidOthers,
                              InvalidPaper, InvalidPlace, InvalidPoints, InvalidPosition, InvalidPositions, InvalidRow, InvalidTable,
                              InvalidTerms, LabelTaken, NameTaken, NoNinth, NotAll, NotApart, NotEight, NothingToRedo,
                              NothingToUndo, NotStill, NoughtForm, OneLeft, PointThere, SamePoint, TooMany, UnknownLabel,
                              UnknownName, UnlikeDegrees, WrongThing)
from pointrows.forms import Form, letter_forms
from pointrows.points import Spots
from tests.helpers import NO_INTEGERS, Odd, draws, refused, same_value
from tests.model import OWN, Model
from tests.samples import SAMPLES

X, Y, Z = letter_forms()
BARS = Spots([(0, 0, 1), (1, 0, 1), (2, 0, 1), (0, 1, 1)])
SQUARE = Spots([(0, 0, 1), (0, 1, 1), (1, 0, 1), (1, 1, 1)])
NINE = ",".join(f"{i}:{j}:1" for i in range(3) for j in range(3))
TEN = ",".join(f"{i}:3:1" for i in range(10))
UNIT = "1,0,0;0,1,0;0,0,1"
TURN = "0,-1,0;1,0,0;0,0,1"
NO_COMMANDS = NO_INTEGERS + [0, 7, "undo ", " undo", "undo\n", "Undo", "take s", "spots s 0:0:0", ["undo"], ("undo",), "claim c all",
                             "add s 1:-0:1", "rows -1", X, "copy a 1"]
NO_KEYS = NO_INTEGERS + [0, 7, "a ", "A", "1a", "abcdefghi", "spots s", ["s"], ("s",), X, BARS, "s\n", "none"]


def made(*commands):
    """A desk that has done the commands."""
    desk = Desk()
    desk.do_all(*commands)
    return desk


def filled():
    """A desk with something of each kind, deeds that can be done again, labels and a paper."""
    desk = made("spots s 0:0:1,1:0:1,2:0:1,0:1:1", f"spots nine {NINE}", f"spots ten {TEN}", "form x 1 1:0:0*1", "form f 2 1:0:1*1,0:2:0*-1",
                f"table t {TURN}", "claim a all s", "claim b row 1,3", "claim c passes f 1:1:1", "form g 3 -")
    desk.do("undo")
    desk.attach("a", ("parted", 3, Y))
    return desk


def state(desk):
    """All that can be seen of a desk; what can be done again is looked at in a copy."""
    names, labels = desk.names, desk.labels
    again = desk.copy()
    redone = []
    while True:
        try:
            redone.append(again.do("redo"))
        except NothingToRedo:
            break
    return ([(name, desk[name]) for name in names], [(label, desk.do("claimed " + label), desk.do("state " + label), desk.fits(label))
                                                     for label in labels], desk.lines(), len(desk), redone)


class Answers(unittest.TestCase):

    def look(self, desk, *told):
        """Commands and their answers, in turn."""
        for command, answer in zip(told[::2], told[1::2]):
            self.assertEqual(desk.do(command), answer, command)

    def test_examples(self):
        desk = Desk()
        self.assertEqual(desk.do_all("spots s 0:0:1,1:0:1,2:0:1,0:1:1", "claim f all s", "row s", "degrees s", "line x 0:0:1 1:0:1",
                                     "passed s x"), ["-", "f false", "1 2 1", "2 2 2 1", "-", "0 1 2"])
        self.assertEqual(desk.do_all("take s 3", "whole s", "undo", "state f", "shown x", "still s"),
                         ["f true", "yes", "take s 3", "false", "form 1 0:1:0*1", "-"])

    def test_what_is_made(self):
        self.look(
            Desk(), "spots s 0:0:1,2:0:2,0:-3:-3", "-", "shown s", "spots 0:0:1,1:0:1,0:1:1",
            "form f 2 0:2:0*-3,1:0:1*1", "-", "shown f", "form 2 1:0:1*1,0:2:0*-3", "form n 5 -", "-", "shown n", "form 5 -",
            f"table t {TURN}", "-", "shown t", "table " + TURN, "line a 0:0:5 2:0:2", "-", "shown a", "form 1 0:1:0*1",
            "stair r 1,2,1", "-", "shown r", "spots 0:0:1,1:0:1,0:1:1,2:0:1", "copy c t", "-", "shown c", "table " + TURN,
            "copy d s", "-", "drop s", "-", "shown d", "spots 0:0:1,1:0:1,0:1:1", "names", "a c d f n r t")

    def test_what_is_made_of_others(self):
        desk = made("form x 1 1:0:0*1", "form y 1 0:1:0*1", "form z 1 0:0:1*1", "line a 1:0:1 1:1:1", "line b 0:1:1 1:1:1", f"table t {TURN}")
        self.look(
            desk, "net s x,a y,b", "-", "shown s", "spots 0:0:1,0:1:1,1:0:1,1:1:1", "times p x a", "-", "shown p", "form 2 2:0:0*1,1:0:1*-1",
            "plus q x z", "-", "shown q", "form 1 1:0:0*1,0:0:1*1", "plus e x x", "-", "shown e", "form 1 1:0:0*2",
            "drop e", "-", "put e q t", "-", "shown e", "form 1 0:1:0*-1,0:0:1*1", "drop e", "-", "drop q", "-",
            "rest l s 3", "-", "shown l", "spots 0:0:1,0:1:1,1:0:1", "move l t", "-", "shown l", "spots 0:0:1,1:0:-1,0:1:1",
            "move p t", "-", "shown p", "form 2 0:2:0*1,0:1:1*-1", "drop l", "-", "rest l s 2,0", "-", "shown l", "spots 0:1:1,1:1:1")

    def test_hidden_forms_and_points(self):
        desk = made("spots s 0:0:1,1:0:1,2:0:1,3:0:1,0:1:1")
        self.look(desk, "still s", "2", "hidden h s 2", "-", "shown h", "form 1 0:1:0*1", "take s 4", "-", "still s", "1 2",
                  "add s 5:0:1", "-", "shown s", "spots 0:0:1,1:0:1,2:0:1,3:0:1,5:0:1", "add s -3:6:-9", "-", "place s 1:-2:3", "5",
                  "place s 2:-4:6", "5", "place s 1:1:1", "none", "take s 0", "-", "place s 1:-2:3", "4")

    def test_what_is_asked_of_spots(self):
        desk = made("spots s 0:0:1,1:0:1,2:0:1,0:1:1", f"spots n {NINE}", "spots o 5:5:5", "spots r 0:1:1,2:0:1,1:0:1,0:0:1")
        self.look(desk, "row s", "1 2 1", "row n", "1 2 3 2 1", "row o", "1", "top s", "2", "top o", "1", "end s", "2", "end o", "0",
                  "degrees s", "2 2 2 1", "degrees o", "0", "still n", "-", "asks s 1", "3", "asks s 0", "1", "asks n 9", "9",
                  "lines s", "0,1,2", "lines o", "-", "lines n", "0,1,2 0,3,6 0,4,8 1,4,7 2,4,6 2,5,8 3,4,5 6,7,8",
                  "late s", "no", "late n", "yes", "whole s", "no", "whole n", "yes", "whole o", "yes",
                  "same s r", "yes", "same s n", "no", "same o o", "yes")
        desk.do("take n 4")
        self.look(desk, "ninth n", "1:1:1", "late n", "yes", "whole n", "no", "row n", "1 2 3 2")

    def test_what_is_asked_of_forms_and_tables(self):
        desk = made("spots s 0:0:1,1:0:1,2:0:1,0:1:1", "line y 0:0:1 1:0:1", "line x 0:0:1 0:1:1", "times p x y", "form n 2 -",
                    f"table t {TURN}", "times q p x")
        self.look(desk, "passed s y", "0 1 2", "passed s x", "0 3", "passed s p", "0 1 2 3", "passed s n", "0 1 2 3",
                  "worth p 2:3:5", "6", "worth p -4:6:10", "-6", "worth n 1:1:1", "0", "apart x y", "yes", "apart p y", "no", "apart n x", "no",
                  "common p q", "form 2 1:1:0*1", "common x y", "form 0 0:0:0*1", "common n x", "form 1 1:0:0*1",
                  "led t 1:2:1", "2:-1:-1", "led t 0:0:-7", "0:0:1", "rows 5", "3", "rows 1", "1", "rows 24", "23")
        desk.do("line far 1:0:0 0:1:0")
        self.look(desk, "passed s far", "-")

    def test_labels(self):
        desk = Desk()
        self.look(desk, "names", "-", "states", "-", "spots s 0:0:1,1:0:1,2:0:1,0:1:1", "-", "claim b all s", "b false", "claim a bars s", "a true",
                  "states", "a true, b false", "claimed b", "all s", "state a", "true", "line y 0:0:1 1:0:1", "-",
                  "claim p passes y 2:0:2", "p true", "claimed p", "passes y 2:0:2", "claim s misses y 2:0:2", "s false",
                  "claim g parts s 3 1", "g true", "claimed g", "parts s 3 1", "claim h stays s 0 1", "h true", "claim i free s 1", "i false",
                  "claim j bound s 1", "j true", "claim k row 1,2,1", "k true", "claimed k", "row 1,2,1", "claim l broken 1,2,1", "l false",
                  "claim m fails s 2", "m false", "claim n holds s 2", "n true",
                  "states", "a true, b false, g true, h true, i false, j true, k true, l false, m false, n true, p true, s false",
                  "forget m", "-", "states", "a true, b false, g true, h true, i false, j true, k true, l false, n true, p true, s false",
                  "forget s", "-", "names", "s y")

    def test_numbers_of_any_size(self):
        desk = made(*[f"table t{i} 999999,1,7;0,-999998,3;5,0,999997" for i in (1, 2)], "spots s 123456:7:-999999,1:0:0", "form f 12 12:0:0*999999,0:0:12*1")
        for _ in range(3):
            desk.do_all("move s t1", "move f t2")
        told = desk.do("shown s")
        self.assertEqual(told, "spots " + ",".join("%d:%d:%d" % point for point in desk["s"].points()))
        self.assertGreater(len(told), 80)
        terms = desk["f"].terms()
        self.assertEqual(desk.do("shown f"), "form 12 " + ",".join("%d:%d:%d*%d" % (*triple, terms[triple]) for triple in terms))
        self.assertGreater(max(terms.values()), 10 ** 100)

    def test_calling(self):
        desk = Desk()
        self.assertEqual([desk("names"), desk("spots s 0:0:1"), desk(command="names"), desk.do(command="undo")],
                         ["-", "-", "s", "spots s 0:0:1"])
        self.assertEqual(desk("redo"), "spots s 0:0:1")


class States(unittest.TestCase):

    def test_gone_and_back(self):
        desk = made("spots s 0:0:1,1:0:1,2:0:1,0:1:1", "claim b all s", "claim a parts s 3 1", "claim c row 1,2")
        self.assertEqual(desk.do("take s 3"), "a gone, b true")
        self.assertEqual(desk.do("states"), "a gone, b true, c true")
        self.assertEqual(desk.do("add s 0:1:1"), "a true, b false")
        self.assertEqual(desk.do("drop s"), "a gone, b gone")
        self.assertEqual(desk.do("form s 1 1:0:0*1"), "-")
        self.assertEqual(desk.do("drop s"), "-")
        self.assertEqual(desk.do("spots s 0:0:1,1:0:1,0:1:1,1:1:1"), "a false, b true")
        self.assertEqual(desk.do("undo"), "spots s 0:0:1,1:0:1,0:1:1,1:1:1")
        self.assertEqual(desk.do("states"), "a gone, b gone, c true")
        self.assertEqual(desk.do("redo"), "spots s 0:0:1,1:0:1,0:1:1,1:1:1")
        self.assertEqual(desk.do("states"), "a false, b true, c true")

    def test_other_kinds(self):
        desk = made("line f 0:0:1 1:0:1", "claim p passes f 1:0:1", "claim m misses f 1:0:1", f"table t {UNIT}")
        self.assertEqual(desk.do("drop f"), "m gone, p gone")
        self.assertEqual(desk.do("spots f 0:0:1"), "-")
        self.assertEqual(desk.do_all("drop f", "copy f t"), ["-", "-"])
        self.assertEqual(desk.do_all("drop f", "line f 1:0:0 0:1:0"), ["-", "m true, p false"])

    def test_too_many_points(self):
        desk = made("spots s 0:3:1,1:3:1,2:3:1,3:3:1,4:3:1,5:3:1,6:3:1,7:3:1,8:3:1", "claim a all s", "claim f free s 8", "claim h fails s 4",
                    "claim p stays s 8 7")
        self.assertEqual(desk.do("states"), "a true, f true, h true, p true")
        # Ten points of a line have no row, but conditions; and they are few at the degree 4 still.
        self.assertEqual(desk.do("add s 9:3:1"), "a gone, f false, p gone")
        self.assertEqual(desk.do_all("add s 0:0:1", "add s 1:0:1"), ["-", "h gone"])
        self.assertEqual(desk.do("states"), "a gone, f false, h gone, p gone")

    def test_moved(self):
        desk = made("spots s 0:0:1,1:0:1,2:0:1,0:1:1", "line f 0:0:1 1:0:1", f"table t {TURN}", "claim a bars s", "claim p passes f 1:0:1",
                    "claim q passes f 0:1:1")
        self.assertEqual(desk.do("move s t"), "-")
        self.assertEqual(desk.do("move f t"), "p false, q true")
        self.assertEqual(desk.do("move f t"), "p true, q false")

    def test_labels_noted_again(self):
        desk = made("spots s 0:0:1", "claim a all s")
        self.assertEqual(desk.do_all("drop s", "forget a"), ["a gone", "-"])
        refused(self, UnknownName, {"value": "s"}, desk.do, "claim a all s")
        self.assertEqual(desk.do("claim a row 1"), "a true")
        self.assertEqual(desk.do_all("undo", "undo", "state a", "undo", "state a"),
                         ["claim a row 1", "forget a", "gone", "drop s", "true"])

    def test_a_label_like_a_name(self):
        desk = made("spots s 0:0:1", "claim s all s")
        self.assertEqual(desk.do_all("states", "drop s", "states", "forget s", "names"), ["s true", "s gone", "s gone", "-", "-"])


class Errors(unittest.TestCase):

    def look(self, command, error, attributes):
        """The error of a command; nothing is changed."""
        desk = filled()
        ahead = state(desk)
        refused(self, error, attributes, desk.do, command)
        refused(self, error, attributes, desk, command)
        self.assertEqual(state(desk), ahead)
        with self.assertRaises(CommandFailed) as caught:
            desk.do_all("names", command)
        self.assertEqual(caught.exception.position, 1)
        self.assertIs(type(caught.exception.__cause__), error)
        for name, value in attributes.items():
            self.assertTrue(same_value(getattr(caught.exception.__cause__, name), value), (command, name))
        self.assertEqual(state(desk), ahead)

    def test_no_commands(self):
        for value in NO_COMMANDS:
            desk = filled()
            for function in (desk.do, desk):
                refused(self, InvalidCommand, {"value": value}, function, value)
                refused(self, InvalidCommand, {"value": value}, function, command=value)

    def test_taken(self):
        for behind in ("spots {} 1:0:0", "form {} 99 -", f"table {{}} {UNIT}", "line {} 1:0:0 1:0:0", "stair {} 5", "net {} q q", "copy {} q",
                       "times {} q q", "plus {} s s", "put {} q q", "hidden {} q 0", "rest {} t 0"):
            for name in ("s", "f", "t"):
                self.look(behind.format(name), NameTaken, {"name": name})
        self.look("claim a all q", LabelTaken, {"label": "a"})
        self.look("claim b row 1", LabelTaken, {"label": "b"})
        self.look("claim c all t", LabelTaken, {"label": "c"})

    def test_unknown(self):
        for command in ("net n x,q s", "net n q,r x", "net n x q", "copy n q", "times n q r", "times n s q", "plus n q r", "plus n t q", "put n q r",
                        "put n t q", "hidden n q 0", "rest n q 0", "move q r", "move t q", "add q 0:0:1", "take q 0", "drop q", "shown q",
                        "row q", "top q", "end q", "degrees q", "still q", "asks q 99", "lines q", "late q", "whole q", "ninth q",
                        "place q 0:0:1", "same q r", "same x q", "passed q r", "passed x q", "worth q 0:0:1", "apart q r", "apart s q",
                        "common q r", "common s q", "led q 0:0:1", "claim l all q", "claim l passes q 0:0:1", "claim l parts q 0 9"):
            self.look(command, UnknownName, {"value": "q"})
        for command in ("forget q", "state q", "claimed q", "state s", "forget s"):
            self.look(command, UnknownLabel, {"value": command.split()[1]})

    def test_wrong_things(self):
        wrong = {"net n x,s f": "s", "net n x s": "s", "net n f,t s": "t", "times n s t": "s", "times n x t": "t", "plus n s x": "s",
                 "plus n x s": "s", "put n s t": "s", "put n x f": "f", "put n t t": "t", "put n x s": "s", "hidden n f 0": "f",
                 "hidden n t 0": "t", "rest n f 0": "f", "move t t": "t", "move s x": "x", "move t s": "t", "move x s": "s", "add f 0:0:1": "f",
                 "add t 0:0:1": "t", "take x 0": "x", "row f": "f", "top t": "t", "end x": "x", "degrees x": "x", "still x": "x",
                 "asks f 99": "f", "lines t": "t", "late x": "x", "whole t": "t", "ninth f": "f", "place x 0:0:1": "x", "same x s": "x",
                 "same s t": "t", "same f t": "f", "passed f s": "f", "passed s t": "t", "passed s nine": "nine", "worth s 0:0:1": "s",
                 "worth t 0:0:1": "t", "apart s t": "s", "apart x t": "t", "common t x": "t", "common x s": "s", "led s 0:0:1": "s",
                 "led x 0:0:1": "x", "claim l all f": "f", "claim l passes s 0:0:1": "s", "claim l free t 0": "t",
                 "claim l parts x 9 9": "x", "claim l holds f 2": "f", "claim l misses t 0:0:1": "t"}
        for command, name in wrong.items():
            self.look(command, WrongThing, {"name": name})

    def test_what_makes_it(self):
        wrong = [
            ("spots n 0:0:1,1:0:1,0:0:2", InvalidPoints, {"position": 2}), ("form n 13 -", InvalidDegree, {"value": 13}),
            ("form n 13 1:0:0*1", InvalidDegree, {"value": 13}), ("form n 2 1:0:0*1", InvalidTerms, {"value": {(1, 0, 0): 1}}),
            ("form n 1 0:1:0*2,1:0:0*0", InvalidTerms, {"value": {(0, 1, 0): 2, (1, 0, 0): 0}}),
            ("table n 1,2,3;4,5,6;7,8,9", InvalidTable, {"value": ((1, 2, 3), (4, 5, 6), (7, 8, 9))}),
            ("line n 1:2:3 -2:-4:-6", SamePoint, {}), ("stair n 1,3", InvalidRow, {"value": [1, 3]}), ("stair n 0", InvalidRow, {"value": [0]}),
            ("net n x x", NotApart, {}), ("net n x,x x", NotApart, {}), ("net n x f", InvalidOthers, {"position": 0}),
            ("net n x,f f", InvalidLines, {"position": 1}), ("net n x x,x,f", InvalidOthers, {"position": 2}),
            ("plus n x f", UnlikeDegrees, {}), ("hidden n s 0", NotStill, {}), ("hidden n ten 1", TooMany, {"what": "degree", "limit": 8}),
            ("hidden n nine " + "9" * 30, NotStill, {}), ("rest n s 0", NotAll, {}), ("rest n s 4", InvalidPositions, {"value": [4]}),
            ("rest n nine 1,1", InvalidPositions, {"value": [1, 1]}), ("rest n ten 0", TooMany, {"what": "degree", "limit": 8}),
            ("rest n nine 0,1,2,3,4,5,6,7,8", InvalidPositions, {"value": list(range(9))}), ("add s 2:0:2", PointThere, {}),
            ("take s 4", InvalidPosition, {"value": 4}), ("take nine " + "9" * 30, InvalidPosition, {"value": int("9" * 30)}),
            ("asks s 10", InvalidDegree, {"value": 10}), ("row ten", TooMany, {"what": "degree", "limit": 8}),
            ("end ten", TooMany, {"what": "degree", "limit": 8}), ("degrees ten", TooMany, {"what": "degree", "limit": 8}),
            ("still ten", TooMany, {"what": "degree", "limit": 8}), ("late ten", TooMany, {"what": "degree", "limit": 8}),
            ("whole ten", TooMany, {"what": "degree", "limit": 8}), ("ninth s", NotEight, {}), ("rows 0", InvalidMany, {"value": 0}),
            ("rows 25", InvalidMany, {"value": 25}), ("claim l all ten", InvalidClaim, {"value": ("all", Spots([(i, 3, 1) for i in range(10)]))}),
            ("claim l parts s 4 1", InvalidClaim, {"value": ("parts", BARS, 4, 1)}),
            ("claim l stays s 3 9", InvalidClaim, {"value": ("stays", BARS, 3, 9)}), ("claim l free s 9", InvalidClaim, {"value": ("free", BARS, 9)}),
            ("claim l bound s " + "9" * 30, InvalidClaim, {"value": ("bound", BARS, int("9" * 30))}),
            ("claim l fails s 1", InvalidClaim, {"value": ("fails", BARS, 1)}), ("claim l holds s 0", InvalidClaim, {"value": ("holds", BARS, 0)}),
        ]
        for command, error, attributes in wrong:
            self.look(command, error, attributes)

    def test_ones_of_other_desks(self):
        desk = made("form a 7 7:0:0*1", "form b 6 -", "form c 5 -", "form d 6 -", "spots o 0:0:1", "form l 1 -", "line y 0:0:1 1:0:1")
        refused(self, TooMany, {"what": "degree", "limit": 12}, desk.do, "times n a b")
        self.assertEqual(desk.do("times n a c"), "-")
        refused(self, NoughtForm, {}, desk.do, "common b d")
        refused(self, NoughtForm, {}, desk.do, "apart b c")
        refused(self, OneLeft, {}, desk.do, "take o 0")
        refused(self, InvalidPosition, {"value": 1}, desk.do, "take o 1")
        refused(self, InvalidLines, {"position": 0}, desk.do, "net m l y")
        desk.do("spots e 1:0:0,1:1:1,1:2:4,1:3:9,1:4:16,1:5:25,1:6:36,1:7:49")
        refused(self, NoNinth, {}, desk.do, "ninth e")
        desk.do("spots m " + ",".join(f"1:{i}:{i * i}" for i in range(24)))
        refused(self, TooMany, {"what": "points", "limit": 24}, desk.do, "add m 0:1:0")
        refused(self, PointThere, {}, desk.do, "add m 2:0:0")

    def test_nothing_to_take_back(self):
        desk = Desk()
        refused(self, NothingToUndo, {}, desk.do, "undo")
        refused(self, NothingToRedo, {}, desk.do, "redo")
        desk.do("spots s 0:0:1")
        refused(self, NothingToRedo, {}, desk.do, "redo")
        desk.do("undo")
        refused(self, NothingToUndo, {}, desk.do, "undo")
        desk.do("redo")
        refused(self, NothingToRedo, {}, desk.do, "redo")


class Limits(unittest.TestCase):

    def test_names(self):
        desk = made(*[f"form f{i} 1 -" for i in range(9)], "spots s 0:0:1")
        refused(self, TooMany, {"what": "names", "limit": 10}, desk.do, "form g 1 -")
        refused(self, TooMany, {"what": "names", "limit": 10}, desk.do, "copy g s")
        # What makes it comes first.
        refused(self, InvalidDegree, {"value": 13}, desk.do, "form g 13 -")
        refused(self, SamePoint, {}, desk.do, "line g 1:0:0 1:0:0")
        self.assertEqual(len(desk.names), 10)
        self.assertEqual(desk.do_all("add s 1:0:1", "drop f0", "form g 1 -"), ["-"] * 3)

    def test_labels(self):
        desk = made(*[f"claim c{i} row 1" for i in range(12)])
        refused(self, TooMany, {"what": "labels", "limit": 12}, desk.do, "claim d row 1")
        refused(self, UnknownName, {"value": "s"}, desk.do, "claim d all s")
        desk.do("spots s 0:0:1")
        refused(self, InvalidClaim, {"value": ("free", Spots([(0, 0, 1)]), 9)}, desk.do, "claim d free s 9")
        self.assertEqual(desk.do_all("forget c3", "claim d row 1"), ["-", "d true"])
        self.assertEqual(len(desk.labels), 12)

    def test_deeds(self):
        desk = made("spots s 0:0:1", *["add s 1:0:1", "take s 1"] * 149)
        self.assertEqual(len(desk), 299)
        desk.do("add s 1:0:1")
        self.assertEqual(len(desk), 300)
        too_many = {"what": "deeds", "limit": 300}
        refused(self, TooMany, too_many, desk.do, "take s 1")
        refused(self, TooMany, too_many, desk.do, "claim c row 1")
        refused(self, InvalidPosition, {"value": 2}, desk.do, "take s 2")
        self.assertEqual(desk.do_all("row s", "undo", "redo", "undo", "drop s", "names"), ["1 1", "add s 1:0:1", "add s 1:0:1", "add s 1:0:1", "-", "-"])
        self.assertEqual(len(desk), 300)
        again = Desk.again(desk.lines())
        self.assertEqual(state(again), state(desk))
        refused(self, CommandFailed, {"position": 300}, Desk.again, desk.lines() + ["spots s 0:0:1"])

    def test_more_than_one(self):
        desk = made(*[f"form f{i} 1 -" for i in range(10)], *[f"claim c{i} row 1" for i in range(12)], *["forget c0", "claim c0 row 1"] * 139)
        self.assertEqual(len(desk), 300)
        refused(self, TooMany, {"what": "names", "limit": 10}, desk.do, "form g 1 -")
        refused(self, TooMany, {"what": "labels", "limit": 12}, desk.do, "claim g row 1")
        refused(self, TooMany, {"what": "deeds", "limit": 300}, desk.do, "drop f0")


class TakingBack(unittest.TestCase):

    def test_undo_and_redo(self):
        desk = made("spots s 0:0:1", "add s 1:0:1", "claim a all s", "add s 2:1:1")
        self.assertEqual(len(desk), 4)
        self.assertEqual([desk("undo"), desk("undo"), desk("undo")], ["add s 2:1:1", "claim a all s", "add s 1:0:1"])
        self.assertEqual((len(desk), desk.labels, desk["s"].size, desk.lines()), (1, [], 1, ["spots s 0:0:1"]))
        self.assertEqual([desk("redo"), desk("redo")], ["add s 1:0:1", "claim a all s"])
        self.assertEqual((len(desk), desk.labels, desk["s"].size), (3, ["a"], 2))
        # What is asked does not come between, a deed does.
        self.assertEqual([desk("states"), desk("redo"), desk("undo")], ["a true", "add s 2:1:1", "add s 2:1:1"])
        self.assertEqual(desk("drop s"), "a gone")
        refused(self, NothingToRedo, {}, desk.do, "redo")
        self.assertEqual([desk("undo"), desk("redo"), desk("states")], ["drop s", "drop s", "a gone"])

    def test_a_deed_that_fails_is_none(self):
        desk = made("spots s 0:0:1", "add s 1:0:1")
        desk("undo")
        refused(self, PointThere, {}, desk.do, "add s 0:0:1")
        refused(self, InvalidCommand, {"value": "add"}, desk.do, "add")
        self.assertEqual(desk("redo"), "add s 1:0:1")

    def test_all_deeds(self):
        lines = ["spots s 0:0:1,0:1:1,1:0:1,1:1:1", "form x 1 1:0:0*1", f"table t {TURN}", "line a 1:0:1 1:1:1", "stair r 1,2,1,1", "line y 0:0:1 1:0:1",
                 "net n x,a y", "copy c n", "drop c", "times p x a", "drop p", "plus p x a", "drop a", "put q x t", "drop q", "hidden h r 2",
                 "drop h", "rest l s 0,3", "move l t", "move p t", "add l 7:7:1", "take l 0", "claim k bars r", "forget k", "drop l"]
        desk, states_then = Desk(), []
        for line in lines:
            self.assertIs(is_deed(line), True)
            states_then.append(state(desk)[:4])
            desk.do(line)
        done = desk.lines()
        self.assertEqual(done, lines)
        for ahead, line in zip(states_then[::-1], done[::-1]):
            self.assertEqual(desk("undo"), line)
            self.assertEqual(state(desk)[:4], ahead)
        for line in done:
            self.assertEqual(desk("redo"), line)
        self.assertEqual(desk.lines(), done)
        self.assertEqual(state(Desk.again(done)), state(desk))


class Together(unittest.TestCase):

    def test_do_all(self):
        desk = filled()
        self.assertEqual(desk.do_all(), [])
        self.assertEqual(desk.do_all("names", "redo", "drop g"), ["f nine s t ten x", "form g 3 -", "-"])
        ahead = state(desk)
        for commands, position, error in ((["drop s", "undo", "undo", "undo", "add s 0:0:1"], 4, PointThere),
                                          (["spots q 0:0:1", "drop q", None], 2, InvalidCommand), (["take s"], 0, InvalidCommand),
                                          (["forget a", "state a"], 1, UnknownLabel), (["row ten"], 0, TooMany), (["drop f", "shown f", "names"], 1, UnknownName),
                                          ([["undo"]], 0, InvalidCommand), (["states", "claim z row 1", "common s x"], 2, WrongThing),
                                          (["undo"] * 20, len(desk), NothingToUndo)):
            for function in (desk.do_all, desk.attempt):
                with self.assertRaises(CommandFailed) as caught:
                    function(*commands)
                self.assertEqual(caught.exception.position, position)
                self.assertIs(type(caught.exception.__cause__), error)
                self.assertEqual(state(desk), ahead)

    def test_attempt(self):
        desk = filled()
        ahead = state(desk)
        self.assertEqual(desk.attempt(), [])
        self.assertEqual(desk.attempt("drop s", "names", "undo", "undo", "undo", "states", "claim c row 1", "form q 1 -", "undo"),
                         ["a gone", "f nine t ten x", "drop s", "claim c passes f 1:1:1", "claim b row 1,3", "a false", "c true", "-",
                          "form q 1 -"])
        self.assertEqual(state(desk), ahead)
        self.assertEqual(desk("redo"), "form g 3 -")
        self.assertEqual(desk.attempt("undo", "drop t"), ["form g 3 -", "-"])
        self.assertEqual(desk("undo"), "form g 3 -")

    def test_answers_are_lists(self):
        desk = Desk()
        for function in (desk.do_all, desk.attempt):
            told = function("names")
            self.assertIs(type(told), list)
            told.append(1)
            self.assertEqual(function("names"), ["-"])


class Keys(unittest.TestCase):

    def test_names_and_labels(self):
        desk = filled()
        self.assertEqual([desk.names, desk.labels, len(desk)], [["f", "nine", "s", "t", "ten", "x"], ["a", "b", "c"], 9])
        for told in (desk.names, desk.labels, desk.lines()):
            self.assertIs(type(told), list)
            told.clear()
        self.assertEqual([desk.names, desk.labels, len(desk)], [["f", "nine", "s", "t", "ten", "x"], ["a", "b", "c"], 9])
        self.assertEqual([Desk().names, Desk().labels, len(Desk()), Desk().lines()], [[], [], 0, []])

    def test_items(self):
        desk = filled()
        self.assertEqual([desk["s"], desk["x"], desk["f"]], [BARS, X, X * Z - Y * Y])
        self.assertEqual(desk["t"], ((0, -1, 0), (1, 0, 0), (0, 0, 1)))
        self.assertEqual([type(desk["t"])] + [type(row) for row in desk["t"]], [tuple] * 4)
        for value in [one for one in NO_KEYS if not same_value(one, "x")] + ["a", "g"]:
            refused(self, UnknownName, {"value": value}, desk.__getitem__, value)
            self.assertIs(value in desk, False)
        for name in desk.names:
            self.assertIs(name in desk, True)
        with self.assertRaises(TypeError):
            iter(desk)

    def test_claims(self):
        desk = made("spots s 0:0:1,1:0:1,2:0:1,0:1:1", "form f 2 1:0:1*1,0:2:0*-1", "claim a all s", "claim b broken 1,3", "claim c passes f 2:4:8",
                    "claim d parts s 3 1", "claim e row 0,5", "claim g holds s 2", "claim h bound s 1")
        told = {"a": ("all", BARS), "b": ("broken", [1, 3]), "c": ("passes", X * Z - Y * Y, (2, 4, 8)), "d": ("parts", BARS, 3, 1),
                "e": ("row", [0, 5]), "g": ("holds", BARS, 2), "h": ("bound", BARS, 1)}
        for label, claim in told.items():
            self.assertEqual(desk.claim_of(label), claim)
            self.assertEqual(desk.claim_of(label=label), claim)
            self.assertEqual([type(part) for part in desk.claim_of(label)], [type(part) for part in claim])
            self.assertIs(is_claim(desk.claim_of(label)), True)
        desk.claim_of("b")[1].append(9)
        self.assertEqual(desk.claim_of("b"), ("broken", [1, 3]))
        desk.do("take s 0")
        self.assertEqual(desk.claim_of("a"), ("all", BARS.without(0)))
        self.assertIsNone(desk.claim_of("d"))
        desk.do("drop s")
        self.assertEqual([desk.claim_of(label) for label in "adgh"], [None] * 4)
        self.assertEqual(desk.claim_of("c"), told["c"])
        for value in NO_KEYS + ["s", "f"]:
            refused(self, UnknownLabel, {"value": value}, desk.claim_of, value)
            refused(self, UnknownLabel, {"value": value}, desk.claim_of, label=value)


class Attached(unittest.TestCase):

    def test_papers_of_both(self):
        desk = made("spots s 0:0:1,0:1:1,1:0:1,1:1:1", "claim a all s", "claim b bars s")
        pair = (X * X - X * Z, Y * Y - Y * Z)
        self.assertEqual([desk.fits("a"), desk.fits("b")], [False, False])
        self.assertIsNone(desk.attach("a", pair))
        self.assertIsNone(desk.attach(paper=pair[::-1], label="b"))
        self.assertEqual([desk.fits("a"), desk.fits(label="b")], [True, True])
        # The ends of the row differ now: the claim is false, and the pair is none.
        self.assertEqual(desk.do("take s 0"), "a false, b true")
        self.assertEqual([desk.fits("a"), desk.fits("b")], [False, False])
        desk.attach("a", ("ends", 0))
        self.assertEqual([desk.fits("a"), desk.fits("b")], [True, False])
        desk.do("undo")
        self.assertEqual([desk.fits("a"), desk.fits("b")], [False, True])
        desk.do("redo")
        self.assertEqual([desk.fits("a"), desk.fits("b")], [True, False])
        self.assertEqual(len(desk), 4)

    def test_kept_for_its_words(self):
        desk = made("spots s 0:0:1,1:0:1,2:0:1", "claim a bound s 1")
        desk.attach("a", [1, -2, 1])
        self.assertIs(desk.fits("a"), True)
        desk.do("forget a")
        refused(self, UnknownLabel, {"value": "a"}, desk.fits, "a")
        for words, wanted in (("bound s 1", True), ("stays s 0 1", False), ("free s 1", False), ("bound s 0", False), ("row 1", False)):
            desk.do("claim a " + words)
            self.assertIs(desk.fits("a"), wanted)
            desk.do("forget a")
        desk.do_all("drop s", "spots s 0:0:1,2:0:1,1:0:1", "claim a bound s 1")
        self.assertIs(desk.fits("a"), False)
        desk.do_all("drop s", "spots s 1:0:0,1:1:0,1:2:0")
        self.assertIs(desk.fits("a"), True)
        # Another paper for other words takes its place, whatever is taken back.
        desk.do_all("forget a", "claim a row 1,3")
        desk.attach("a", 1)
        self.assertIs(desk.fits("a"), True)
        desk.do_all("undo", "undo")
        self.assertEqual([desk("claimed a"), desk.fits("a")], ["bound s 1", False])
        desk.attach("a", (-3, 6, -3))
        self.assertIs(desk.fits("a"), True)

    def test_what_it_was_kept_for(self):
        desk = made("line f 0:0:1 1:0:1", "claim p passes f 0:1:1")
        desk.attach("p", 1)
        self.assertIs(desk.fits("p"), True)
        desk.do_all("drop f", "form f 1 0:1:0*1,0:0:1*-1")
        self.assertEqual([desk("state p"), desk.fits("p")], ["true", False])
        desk.attach("p", 0)
        self.assertIs(desk.fits("p"), True)
        desk.do("drop f")
        self.assertEqual([desk("state p"), desk.fits("p")], ["gone", False])
        refused(self, InvalidPaper, {"value": 0}, desk.attach, "p", 0)
        desk.do("undo")
        self.assertIs(desk.fits("p"), True)

    def test_wrong_papers(self):
        desk = filled()
        ahead = state(desk)
        for label, values in (("a", NO_INTEGERS + [0, ["parted", 3, Y], ("parted", 2, Y), (X, Y), ("ends", 0)]),
                              ("b", [True, 0, 2, None, BARS, Spots([(0, 0, 1)]), "1"]), ("c", [1, False, None, [0], "0", Odd()])):
            for value in values:
                refused(self, InvalidPaper, {"value": value}, desk.attach, label, value)
                refused(self, InvalidPaper, {"value": value}, desk.attach, paper=value, label=label)
        for value in NO_KEYS + ["s", "g"]:
            refused(self, UnknownLabel, {"value": value}, desk.attach, value, 0)
            refused(self, UnknownLabel, {"value": value}, desk.attach, label=value, paper=Odd())
            refused(self, UnknownLabel, {"value": value}, desk.fits, value)
        self.assertEqual(state(desk), ahead)
        self.assertEqual([desk.fits("a"), desk.fits("b"), desk.fits("c")], [True, False, False])

    def test_papers_are_copied(self):
        desk = made("spots s 0:0:1,1:0:1,2:0:1", "claim a bound s 1", "claim b fails s 1", "claim c free s 2")
        numbers, positions, forms = [1, -2, 1], [2, 1, 0], paper_of(desk.claim_of("c"))
        for label, paper in (("a", numbers), ("b", ("line", Y, positions)), ("c", forms)):
            desk.attach(label, paper)
        numbers[0], positions[0], forms[0] = 5, 1, Y
        self.assertEqual([desk.fits(label) for label in "abc"], [True] * 3)

    def test_each_kind_of_claim(self):
        desk = made("spots s 0:0:1,1:0:1,2:0:1,0:1:1", "form f 2 1:0:1*1,0:2:0*-1", "claim a all s", "claim b passes f 2:4:8", "claim c passes f 2:4:7",
                    "claim d parts s 3 1", "claim e parts s 0 1", "claim g free s 1", "claim h free s 2", "claim i row 1,2,1", "claim j row 2",
                    "claim k fails s 2", "claim l holds s 2")
        for label in desk.labels:
            claim = desk.claim_of(label)
            paper = paper_of(claim)
            if paper is None:
                paper = paper_of(contrary(claim))
            desk.attach(label, paper)
            self.assertIs(desk.fits(label), True)
        self.assertEqual([label for label in desk.labels if not desk.fits(label)], [])

    def test_no_deed(self):
        desk = made("spots s 0:0:1", "claim a all s", "drop s")
        desk.do("undo")
        desk.attach("a", (X, Y))
        self.assertEqual([len(desk), desk("redo"), desk.fits("a"), desk("undo"), desk.fits("a")], [2, "drop s", False, "drop s", True])
        desk.do_all("undo", "redo")
        self.assertIs(desk.fits("a"), True)


class Copies(unittest.TestCase):

    def test_copy(self):
        desk = filled()
        other = desk.copy()
        self.assertIs(type(other), Desk)
        self.assertEqual(state(other), state(desk))
        ahead = state(desk)
        other.do_all("drop s", "forget b", "claim z row 1")
        other.attach("z", Spots([(0, 0, 1)]))
        other.attach("c", 0)
        self.assertEqual(state(desk), ahead)
        refused(self, UnknownLabel, {"value": "z"}, desk.fits, "z")
        told = state(other)
        desk.do_all("undo", "undo", "undo")
        self.assertEqual(state(other), told)
        self.assertEqual([desk.copy().do("redo"), desk.do("redo")], ["claim a all s"] * 2)

    def test_lines_and_again(self):
        desk = filled()
        other = Desk.again(desk.lines())
        self.assertIs(type(other), Desk)
        self.assertEqual(other.lines(), desk.lines())
        self.assertEqual([other.names, other.labels, other("states")], [desk.names, desk.labels, desk("states")])
        self.assertIs(other.fits("a"), False)
        refused(self, NothingToRedo, {}, other.do, "redo")
        self.assertEqual(other.do("undo"), desk.lines()[-1])
        self.assertEqual(state(Desk.again(())), state(Desk()))
        self.assertEqual(Desk.again(lines=tuple(desk.lines())).lines(), desk.lines())
        self.assertEqual(desk.again([]).lines(), [])

    def test_wrong_lines(self):
        for value in [one for one in NO_INTEGERS if not isinstance(one, (list, tuple))] + [0, 7, "drop s", X, {"drop s": 1}, Desk()]:
            refused(self, InvalidLines, {"position": None}, Desk.again, value)
            refused(self, InvalidLines, {"position": None}, Desk.again, lines=value)
        for value in NO_COMMANDS + ["undo", "redo", "names", "row s", "states", "state a"]:
            self.assertIs(is_deed(value), False)
            refused(self, InvalidLines, {"position": 0}, Desk.again, [value])
            # A line that is no deed is told ahead of a deed that fails.
            refused(self, InvalidLines, {"position": 2}, Desk.again, ("drop q", "form f 1 -", value, "x"))
        for lines, position, error in ((["drop s"], 0, UnknownName), (["form f 1 -", "form f 1 -"], 1, NameTaken),
                                       (["spots s 0:0:1", "take s 0", "take s 0"], 1, OneLeft)):
            with self.assertRaises(CommandFailed) as caught:
                Desk.again(lines)
            self.assertEqual(caught.exception.position, position)
            self.assertIs(type(caught.exception.__cause__), error)


class Stopped(Exception):
    """An error of a test's own."""


class Trials(unittest.TestCase):

    def test_all_is_as_before(self):
        desk = filled()
        ahead = state(desk)
        with Trial(desk) as held:
            self.assertIs(held, desk)
            held.do_all("drop s", "forget b", "claim z row 1,3", "undo")
            desk.attach("c", 0)
            self.assertIs(desk.fits("c"), True)
            self.assertEqual(desk("states"), "a gone, c true")
        self.assertEqual(state(desk), ahead)
        self.assertIs(desk.fits("c"), False)
        self.assertEqual(desk("redo"), "form g 3 -")

    def test_an_error_leaves_it(self):
        desk = filled()
        ahead = state(desk)
        with self.assertRaises(Stopped):
            with Trial(desk=desk) as held:
                held.do("undo")
                raise Stopped()
        self.assertEqual(state(desk), ahead)
        with self.assertRaises(UnknownName) as caught:
            with Trial(desk):
                desk.do("drop s")
                desk.do("row s")
        self.assertEqual(caught.exception.value, "s")
        self.assertEqual(state(desk), ahead)

    def test_one_block_after_another_and_within(self):
        desk = filled()
        trial = Trial(desk)
        desk.do("drop x")
        for _ in range(2):
            with trial as held:
                held.do("drop s")
            self.assertEqual(desk.names, ["f", "nine", "s", "t", "ten"])
        desk.do("drop f")
        with trial:
            desk.do("undo")
            inner = state(desk)
            with Trial(desk):
                desk.do_all("undo", "undo")
            self.assertEqual(state(desk), inner)
        self.assertEqual(desk.names, ["nine", "s", "t", "ten"])

    def test_tried(self):
        desk = filled()
        ahead = state(desk)
        self.assertEqual(tried(desk, lambda held: held.do_all("drop s", "names")), ["a gone", "f nine t ten x"])
        self.assertIs(tried(desk, lambda held: held is desk), True)
        self.assertEqual(tried(action=len, desk=desk), 9)
        self.assertIsNone(tried(desk, lambda held: held.attach("c", 0)))
        self.assertEqual(state(desk), ahead)

        def stop(held):
            held.do("drop s")
            raise Stopped()

        with self.assertRaises(Stopped):
            tried(desk, stop)
        with self.assertRaises(NothingToUndo):
            tried(desk, lambda held: [held.do("undo") for _ in range(20)])
        self.assertEqual(state(desk), ahead)
        self.assertEqual(tried(desk, lambda held: tried(held, lambda one: one.do("undo")) + " / " + held.do("undo")),
                         "claim c passes f 1:1:1 / claim c passes f 1:1:1")


# What drawn commands are made of.
POINTS = ["0:0:1", "1:0:1", "2:0:1", "0:1:1", "1:1:1", "2:2:2", "1:0:0", "-1:3:2", "0:0:-4", "3:0:1"]
FORMS = ["1 1:0:0*1", "1 0:1:0*1", "1 1:0:0*1,0:0:1*-1", "2 1:0:1*1,0:2:0*-1", "2 -", "0 0:0:0*3", "1 2:0:0*1", "13 -", "3 3:0:0*2,1:1:1*-5"]
TABLES = [UNIT, TURN, "1,2,0;0,1,0;3,0,1", "0,0,0;0,1,0;0,0,1"]
ROWS = ["1", "1,1,1,1", "1,2,1", "1,2,1,1", "1,2,3,2,1", "2", "1,3", "1,2,2,2", "0"]
WORDS = {"passes": "n p", "misses": "n p", "all": "n", "bars": "n", "parts": "n c c", "stays": "n c c", "free": "n c", "bound": "n c",
         "row": "l", "broken": "l", "fails": "n c", "holds": "n c"}
SHAPES = {"spots": "n q", "form": "n f", "table": "n t", "line": "n p p", "stair": "n l", "net": "n m m", "copy": "n n", "times": "n n n",
          "plus": "n n n", "put": "n n n", "hidden": "n n c", "rest": "n n k", "move": "n n", "add": "n p", "take": "n c", "drop": "n",
          "forget": "a", "undo": "", "redo": "", "state": "a", "states": "", "claimed": "a", "names": "", "shown": "n", "row": "n",
          "top": "n", "end": "n", "degrees": "n", "still": "n", "asks": "n c", "lines": "n", "late": "n", "whole": "n", "ninth": "n",
          "place": "n p", "same": "n n", "passed": "n n", "worth": "n p", "apart": "n n", "common": "n n", "led": "n p", "rows": "c"}
OFTEN = ["spots", "form", "table", "stair", "line", "undo", "redo", "add", "take", "claim", "claim", "claim", "states", "drop", "move"]


class Drawn(unittest.TestCase):

    def word(self, source, kind):
        """A drawn word."""
        if kind == "q":
            return ",".join(source.sample(POINTS, source.randint(1, 6)))
        if kind == "m":
            return ",".join(source.choice("abcdef") for _ in range(source.randint(1, 2)))
        if kind == "k":
            return ",".join(source.sample("0123", source.randint(1, 2)))
        return source.choice({"n": "abcdef", "a": "uvwa", "p": POINTS, "f": FORMS, "t": TABLES, "l": ROWS, "c": "0011223489"}[kind])

    def command(self, source):
        """A drawn command."""
        word = source.choice(OFTEN + list(SHAPES))
        if word != "claim":
            return " ".join([word] + [self.word(source, kind) for kind in SHAPES[word].split()])
        word = source.choice(list(WORDS))
        return " ".join(["claim", self.word(source, "a"), word] + [self.word(source, kind) for kind in WORDS[word].split()])

    def told(self, function, command):
        """The answer, or the error with its attributes."""
        try:
            return function(command)
        except OWN as error:
            return type(error), vars(error)

    def test_like_the_model(self):
        source, answers, failed = draws(951), 0, {}
        for _ in range(60):
            desk, model = Desk(), Model()
            for _ in range(60):
                command = self.command(source)
                self.assertIs(is_command(command), True, command)
                wanted = self.told(model.do, command)
                ahead = desk.copy()
                self.assertEqual(self.told(desk.do, command), wanted, command)
                if isinstance(wanted, tuple):
                    failed[wanted[0]] = failed.get(wanted[0], 0) + 1
                    self.assertEqual(self.seen(desk), self.seen(ahead))
                else:
                    answers += 1
                self.look(desk, model)
        self.assertGreater(answers, 700)
        self.assertGreater(len(failed), 15)

    def seen(self, desk):
        """The names with their things, the labels, the lines."""
        return [(name, desk[name]) for name in desk.names], desk.labels, desk.lines()

    def look(self, desk, model):
        """The desk keeps what the model keeps."""
        self.assertEqual(self.seen(desk), (sorted(model.things.items()), sorted(model.notes), [line for line, _, _ in model.done]))
        self.assertEqual([desk.claim_of(label) for label in desk.labels], [model.claim(label) for label in desk.labels])

    def test_papers_among_deeds(self):
        source, kept = draws(952), 0
        for _ in range(25):
            desk, papers = Desk(), {}
            for _ in range(60):
                self.told(desk.do, self.command(source))
                if desk.labels and source.random() < 0.5:
                    label = source.choice(desk.labels)
                    claim = desk.claim_of(label)
                    if claim is not None:
                        shown = claim if paper_of(claim) is not None else contrary(claim)
                        desk.attach(label, paper_of(shown))
                        papers[label] = (desk("claimed " + label), shown[0], paper_of(shown))
                        kept += 1
                for label in desk.labels:
                    self.assertIs(desk.fits(label), self.fits_by_hand(desk, label, papers))
        self.assertGreater(kept, 50)

    def fits_by_hand(self, desk, label, papers):
        """Whether the paper that was kept last is one still."""
        claim = desk.claim_of(label)
        if claim is None or label not in papers or papers[label][0] != desk("claimed " + label):
            return False
        return is_paper_of((papers[label][1], *claim[1:]), papers[label][2])

    def test_again_and_copies(self):
        source = draws(953)
        for _ in range(15):
            desk = Desk()
            for _ in range(50):
                self.told(desk.do, self.command(source))
                if source.random() < 0.2:
                    ahead = state(desk)
                    commands = [self.command(source) for _ in range(3)]
                    self.told(lambda told: desk.attempt(*told), commands)
                    self.assertEqual(state(desk), ahead)
                    wanted, one_by_one = desk.copy(), desk.copy()
                    all_of_them = self.told(lambda told: desk.do_all(*told), commands)
                    answers = [self.told(one_by_one.do, command) for command in commands]
                    if isinstance(all_of_them, list):
                        self.assertEqual([all_of_them, state(desk)], [answers, state(one_by_one)])
                    else:
                        self.assertIs(all_of_them[0], CommandFailed)
                        self.assertEqual([type(answer) for answer in answers].index(tuple), all_of_them[1]["position"])
                        self.assertEqual(state(desk), state(wanted))
            self.assertEqual(self.seen(Desk.again(desk.lines())), self.seen(desk))


class Parameters(unittest.TestCase):

    def test_repeated_calls(self):
        desk = filled()
        for command in ("names", "states", "state a", "claimed c", "shown s", "row nine", "lines nine", "passed s x", "rows 9"):
            self.assertEqual(desk.do(command), desk.do(command))
        for function, value in ((desk.claim_of, "b"), (desk.fits, "a"), (desk.fits, "b")):
            self.assertEqual(function(value), function(value))
        self.assertEqual(desk.lines(), desk.lines())

    def test_nothing_that_is_passed_changes(self):
        lines = ["spots s 0:0:1", "claim a free s 0"]
        desk = Desk.again(lines)
        lines.append("x")
        self.assertEqual(desk.lines(), lines[:2])
        paper = [Form(0, {(0, 0, 0): 1})]
        desk.attach("a", paper)
        self.assertEqual(paper, [Form(0, {(0, 0, 0): 1})])
        self.assertEqual(SAMPLES["one"].points(), [(3, -5, 7)])
        self.assertEqual(SQUARE.size, 4)


if __name__ == "__main__":
    unittest.main()
