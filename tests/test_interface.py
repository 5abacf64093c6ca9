"""The interface: each name stands in its file, with the names of its parameters, in their order."""

import importlib
import inspect
import pathlib
import unittest

import allhelms
from allhelms.workshops import Workshop

INTERFACE = {
    "rows": {"is_row": "value", "value_at": "row fraction", "row_sum": "row other", "row_less": "row other",
             "row_product": "row other", "parted": "row other", "divides": "row other",
             "common_divisor": "row other", "cofactors": "row other"},
    "steady": {"is_steady": "row", "bends_of": "row", "is_quick": "row fraction", "row_of": "bends"},
    "answers": {"is_answer": "value", "answer_of": "row other", "first_numbers": "answer number",
                "answer_sum": "answer other", "answer_product": "answer other",
                "answer_over": "answer other", "dies_out": "answer", "whole_sum": "answer"},
    "machines": {"is_machine": "value", "is_helm": "value", "size_of": "machine", "helm_size": "helm",
                 "hidden_part": "machine", "core_of": "machine", "can_be_steadied": "machine",
                 "same_helm": "helm other"},
    "loops": {"closing_row": "machine helm", "is_steady_loop": "machine helm", "four_answers": "machine helm",
              "shown": "machine helm goal push start turn", "running_start": "machine helm",
              "last_beat": "machine helm", "fewest_beats": "machine"},
    "helms": {"base_helm": "machine", "helm_of": "machine free", "free_answer": "machine helm",
              "least_helm": "machine wished", "is_steady_helm": "helm"},
    "rules": {"follows": "machine helm rule", "unfollowed_start": "machine helm rule",
              "can_follow": "machine rule", "following_helm": "machine rule", "rule_left": "machine rule"},
    "limits": {"error_answer": "machine helm", "is_error": "machine answer", "helm_with_error": "machine answer",
               "fixed_sum": "machine x", "helm_with_sum": "machine x value",
               "least_dip": "machine x beat slack", "least_peak": "machine x"},
    "worst": {"worst_near": "answer many", "worst_row": "answer many", "is_bound": "answer low high value"},
    "least": {"is_told": "machine", "told_zeros": "machine", "least_worst": "machine", "least_row": "machine",
              "worst_weights": "machine", "are_weights": "machine value", "calmest_helm": "machine"},
    "parity": {"has_steady_helm": "machine", "parting_stretch": "machine", "is_parting": "machine value",
               "difference_of": "machine other", "one_for_both": "machine other",
               "parting_of_both": "machine other"},
    "checker": {"accepts": "claim paper"},
    "certificates": {"certify_bends": "row", "certify_loop": "machine helm", "certify_machine": "machine",
                     "certify_free": "machine helm", "certify_follows": "machine helm rule",
                     "certify_rule": "machine rule", "certify_error": "machine answer",
                     "certify_sum": "machine x value", "certify_worst": "answer many",
                     "certify_closing": "machine wished", "certify_over": "machine", "certify_least": "machine",
                     "certify_steady_helm": "machine", "certify_both": "machine other"},
}

# The classes, each with its methods and the names of their parameters, and its properties.
CLASSES = {
    ("workshops", "Workshop"): (
        {"__init__": "", "put_machine": "name machine", "put_helm": "name helm", "drop": "name", "wish": "wish",
         "lift": "index", "named": "name", "undo": "", "trial": "", "tried": "action"}, ("names", "wishes")),
    ("consoles", "Console"): ({"__init__": "shop", "say": "line"}, ()),
}


class Interface(unittest.TestCase):

    def test_functions(self):
        for file, functions in INTERFACE.items():
            module = importlib.import_module("allhelms." + file)
            for name, parameters in functions.items():
                with self.subTest(file=file, name=name):
                    function = getattr(module, name)
                    self.assertTrue(inspect.isfunction(function))
                    self.assertEqual(function.__module__, "allhelms." + file)
                    told = inspect.signature(function).parameters.values()
                    self.assertEqual([parameter.name for parameter in told], parameters.split())
                    for parameter in told:
                        self.assertIs(parameter.kind, inspect.Parameter.POSITIONAL_OR_KEYWORD)
                        self.assertIs(parameter.default, inspect.Parameter.empty)

    def test_classes(self):
        for (file, name), (methods, properties) in CLASSES.items():
            made = getattr(importlib.import_module("allhelms." + file), name)
            self.assertTrue(inspect.isclass(made))
            self.assertEqual(made.__module__, "allhelms." + file)
            for method, parameters in methods.items():
                with self.subTest(name=name, method=method):
                    # In the class itself, not only in a base class.
                    told = list(inspect.signature(vars(made)[method]).parameters.values())[1:]
                    self.assertEqual([parameter.name for parameter in told], parameters.split())
                    for parameter in told:
                        self.assertIs(parameter.kind, inspect.Parameter.POSITIONAL_OR_KEYWORD)
                        self.assertIs(parameter.default, inspect.Parameter.empty)
            for told in properties:
                self.assertIsInstance(vars(made)[told], property)
        self.assertIn("__len__", vars(Workshop))
        self.assertIn("__contains__", vars(Workshop))

    def test_the_package_is_this_one(self):
        folder = pathlib.Path(__file__).resolve().parent.parent / "allhelms"
        self.assertEqual(pathlib.Path(allhelms.__file__).resolve().parent, folder)


if __name__ == "__main__":
    unittest.main()
