"""What the interface lists is there, defined in the file under which it is listed, with these parameters."""

import importlib
import inspect
import unittest

LISTED = {
    "basics": {"is_integer": "value", "is_count": "value", "is_list": "value"},
    "forms": {"is_triple": "value", "letter_forms": "", "Form": "degree terms"},
    "products": {"triples": "degree", "slope": "form letter", "put_in": "form table", "primitive": "form",
                 "quotient": "form other", "common_form": "form other", "no_common": "form other"},
    "points": {"is_point": "value", "told_point": "point", "Spots": "points", "same_points": "spots other"},
    "lines": {"line_through": "point other", "meet": "line other", "passed": "spots form", "lines_of": "spots"},
    "tables": {"is_table": "value", "led": "table point", "undone_table": "table", "behind": "table other",
               "moved": "spots table", "form_moved": "form table", "four_table": "spots"},
    "conditions": {"conditions": "spots degree", "forms_through": "spots degree",
                   "is_forms_through": "spots degree value"},
    "rows": {"row": "spots", "end": "spots", "top": "spots", "count_through": "spots degree"},
    "sums": {"independent": "spots degree", "is_independent": "spots degree value", "sums": "spots degree",
             "is_sums": "spots degree value", "is_sum": "spots degree value", "comes_of": "spots position degree"},
    "parting": {"part_degree": "spots position", "part_degrees": "spots", "parting_form": "spots position degree",
                "is_parting": "spots position value"},
    "sheds": {"row_without": "spots position", "all_late": "spots", "early": "spots", "is_early": "spots value",
              "late_rows": "spots"},
    "possible": {"is_row": "value", "fault": "value", "mirrored": "row", "is_mirrored": "row", "box": "first second",
                 "box_of": "row"},
    "stairs": {"stair": "row", "lengths": "row", "row_by": "lengths"},
    "counted": {"rows_of": "many", "row_count": "many", "partings": "many"},
    "still": {"still_places": "spots", "row_on": "row place", "row_off": "row place"},
    "hidden": {"hidden_form": "spots place", "hidden_points": "spots place"},
    "few": {"fails": "spots degree", "why_fails": "spots degree", "is_why_fails": "spots degree value"},
    "pairs": {"is_pair": "spots value", "box_degrees": "spots"},
    "verdicts": {"pair": "spots", "is_all": "spots", "why_not": "spots", "is_why_not": "spots value"},
    "nets": {"net": "lines others", "net_pair": "lines others", "meets": "form other spots"},
    "left": {"rest": "spots positions", "rest_row": "spots positions", "is_last": "spots position value"},
    "ninth": {"ninth": "spots", "is_ninth": "spots value"},
    "cubics": {"net_less": "lines others positions", "link_row": "row first second"},
    "texts": {"sorts": "", "is_of": "sort value", "written": "sort value"},
    "readers": {"read": "text"},
    "claims": {"words": "", "is_claim": "value", "is_true": "claim", "contrary": "claim", "paper_of": "claim",
               "is_paper_of": "claim value"},
    "commands": {"is_name": "value", "is_command": "value", "is_deed": "value"},
    "desk": {"Desk": "", "Trial": "desk", "tried": "desk action"},
}
METHODS = {
    ("forms", "Form"): {"terms": "self", "times": "self number", "worth": "self point", "__add__": "self other",
                        "__sub__": "self other", "__neg__": "self", "__mul__": "self other", "__eq__": "self other",
                        "__repr__": "self", "__init__": "self degree terms"},
    ("points", "Spots"): {"points": "self", "place": "self point", "without": "self position",
                          "with_point": "self point", "__eq__": "self other", "__repr__": "self",
                          "__init__": "self points"},
    ("desk", "Desk"): {"do": "self command", "__call__": "self command", "do_all": "self commands",
                       "attempt": "self commands", "claim_of": "self label", "attach": "self label paper",
                       "fits": "self label", "lines": "self", "copy": "self", "__len__": "self",
                       "__getitem__": "self name", "__contains__": "self name", "__init__": "self"},
    ("desk", "Trial"): {"__init__": "self desk", "__enter__": "self", "__exit__": "self kind value trace"},
}
PROPERTIES = {("forms", "Form"): ("degree", "is_nought"), ("points", "Spots"): ("size",),
              ("desk", "Desk"): ("names", "labels"), ("desk", "Trial"): ()}


def parameters(function):
    """The names of the parameters, with blanks between."""
    return " ".join(inspect.signature(function).parameters)


class Interface(unittest.TestCase):

    def test_functions_and_classes(self):
        for file, names in LISTED.items():
            module = importlib.import_module("pointrows." + file)
            for name, wanted in names.items():
                told = getattr(module, name)
                self.assertEqual(told.__module__, "pointrows." + file, name)
                self.assertEqual(parameters(told), wanted, name)

    def test_methods(self):
        for (file, name), methods in METHODS.items():
            made = vars(getattr(importlib.import_module("pointrows." + file), name))
            for method, wanted in methods.items():
                self.assertEqual(parameters(made[method]), wanted, method)
            for told in PROPERTIES[file, name]:
                self.assertIsInstance(made[told], property)

    def test_class_method(self):
        desk = importlib.import_module("pointrows.desk").Desk
        self.assertIsInstance(vars(desk)["again"], classmethod)
        self.assertEqual(parameters(desk.again), "lines")


if __name__ == "__main__":
    unittest.main()
