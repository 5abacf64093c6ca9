"""The interface: each name stands in its file, with the names of its parameters, in their order."""

import importlib
import inspect
import pathlib
import unittest

import allhelms

INTERFACE = {
    "rows": {"is_row": "value", "value_at": "row fraction", "row_sum": "row other", "row_less": "row other",
             "row_product": "row other", "parted": "row other", "divides": "row other",
             "common_divisor": "row other", "cofactors": "row other"},
    "steady": {"is_steady": "row", "bends_of": "row", "is_quick": "row fraction", "row_of": "bends"},
    "answers": {"is_answer": "value", "answer_of": "row other", "first_numbers": "answer number",
                "answer_sum": "answer other", "answer_product": "answer other",
                "answer_over": "answer other", "dies_out": "answer", "whole_sum": "answer"},
    "machines": {"is_machine": "value", "is_helm": "value", "size_of": "machine", "helm_size": "helm",
                 "hidden_part": "machine", "core_of": "machine", "can_be_steadied": "machine",
                 "same_helm": "helm other"},
    "loops": {"closing_row": "machine helm", "is_steady_loop": "machine helm", "four_answers": "machine helm",
              "shown": "machine helm goal push start turn", "running_start": "machine helm",
              "last_beat": "machine helm", "fewest_beats": "machine"},
    "helms": {"base_helm": "machine", "helm_of": "machine free", "free_answer": "machine helm",
              "least_helm": "machine wished", "is_steady_helm": "helm"},
    "rules": {"follows": "machine helm rule", "unfollowed_start": "machine helm rule",
              "can_follow": "machine rule", "following_helm": "machine rule", "rule_left": "machine rule"},
}


class Interface(unittest.TestCase):

    def test_functions(self):
        for file, functions in INTERFACE.items():
            module = importlib.import_module("allhelms." + file)
            for name, parameters in functions.items():
                with self.subTest(file=file, name=name):
                    function = getattr(module, name)
                    self.assertTrue(inspect.isfunction(function))
                    self.assertEqual(function.__module__, "allhelms." + file)
                    told = inspect.signature(function).parameters.values()
                    self.assertEqual([parameter.name for parameter in told], parameters.split())
                    for parameter in told:
                        self.assertIs(parameter.kind, inspect.Parameter.POSITIONAL_OR_KEYWORD)
                        self.assertIs(parameter.default, inspect.Parameter.empty)

    def test_the_package_is_this_one(self):
        folder = pathlib.Path(__file__).resolve().parent.parent / "allhelms"
        self.assertEqual(pathlib.Path(allhelms.__file__).resolve().parent, folder)


if __name__ == "__main__":
    unittest.main()
