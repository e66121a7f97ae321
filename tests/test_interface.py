"""The names, files and parameter names of the document's interface."""

import importlib
import inspect
import unittest

FUNCTIONS = {
    "redirections": {
        "normal_form": ["words"],
        "composed": ["words", "other_words"],
        "same_words": ["words", "other_words"],
        "applied": ["words", "table"],
        "parting_table": ["words", "other_words"],
    },
    "moves": {
        "rings_of": ["table", "goal"],
        "calls_between": ["table", "goal"],
        "next_calls": ["table", "goal"],
        "fewest_calls": ["table", "goal"],
        "is_calls": ["table", "value"],
        "least_calls": ["table", "goal", "value"],
        "after_calls": ["table", "calls"],
    },
    "programs": {
        "is_program": ["value"],
        "first_wrong": ["value"],
        "processes_of": ["program"],
        "body_of": ["program", "process"],
        "fork_place": ["program", "process"],
    },
}

# Correct arguments for each name of a parameter.
ARGUMENTS = {
    "words": ["1>&2", "3>f"],
    "other_words": ["2<g"],
    "table": ["a", "b", "c"] + [None] * 7,
    "goal": ["a", "c", "b"] + [None] * 7,
    "calls": [("close", 0), ("copy", 1, 0)],
    "value": [("close", 1)],
    "program": [("pipe", 3, 4), ("fork", [("fork", []), ("close", 3)]), ("wait",)],
    "process": (0,),
}


class Interface(unittest.TestCase):

    def each_function(self):
        for file, functions in FUNCTIONS.items():
            module = importlib.import_module("fdwires." + file)
            for name, parameters in functions.items():
                yield module, name, parameters

    def test_functions_stand_in_their_files(self):
        for module, name, parameters in self.each_function():
            function = getattr(module, name)
            self.assertTrue(inspect.isfunction(function), name)
            self.assertEqual(module.__name__, function.__module__, name)
            self.assertEqual(parameters, list(inspect.signature(function).parameters), name)

    def test_arguments_by_position_and_by_name(self):
        for module, name, parameters in self.each_function():
            function = getattr(module, name)
            by_position = function(*[ARGUMENTS[parameter] for parameter in parameters])
            by_name = function(**{parameter: ARGUMENTS[parameter] for parameter in reversed(parameters)})
            self.assertEqual(by_position, by_name, name)

    def test_no_argument_is_changed_and_results_are_equal(self):
        before = repr(ARGUMENTS)
        for module, name, parameters in self.each_function():
            arguments = [ARGUMENTS[parameter] for parameter in parameters]
            first = getattr(module, name)(*arguments)
            shown = repr(first)
            if isinstance(first, list):
                self.assertFalse(any(first is argument for argument in arguments), name)
                first.append("changed")
            self.assertEqual(shown, repr(getattr(module, name)(*arguments)), name)
            self.assertEqual(before, repr(ARGUMENTS), name)


if __name__ == "__main__":
    unittest.main()
