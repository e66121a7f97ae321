"""The names, files and parameter names of the document's interface."""

import importlib
import inspect
import unittest

FUNCTIONS = {
    "redirections": {
        "normal_form": ["words"],
        "composed": ["words", "other_words"],
        "same_words": ["words", "other_words"],
        "applied": ["words", "table"],
        "parting_table": ["words", "other_words"],
    },
    "moves": {
        "rings_of": ["table", "goal"],
        "calls_between": ["table", "goal"],
        "next_calls": ["table", "goal"],
        "fewest_calls": ["table", "goal"],
        "is_calls": ["table", "value"],
        "least_calls": ["table", "goal", "value"],
        "after_calls": ["table", "calls"],
    },
    "programs": {
        "is_program": ["value"],
        "first_wrong": ["value"],
        "processes_of": ["program"],
        "body_of": ["program", "process"],
        "fork_place": ["program", "process"],
    },
    "texts": {
        "format_program": ["program"],
        "parse_program": ["text"],
        "listing": ["program"],
    },
    "ends": {
        "table_at": ["program", "process", "index"],
        "pipes_of": ["program"],
        "openings_of": ["program"],
        "holders": ["program", "end"],
        "writers_of": ["program", "process", "j"],
        "readers_of": ["program", "process", "j"],
        "same_opening": ["program", "process", "index", "number", "other", "other_index", "other_number"],
    },
    "runs": {
        "is_schedule": ["program", "capacity", "value"],
        "after_schedule": ["program", "capacity", "schedule"],
        "able_after": ["program", "capacity", "schedule"],
        "walk_schedule": ["program", "capacity", "schedule"],
        "final_states": ["program", "capacity"],
        "schedule_to": ["program", "capacity", "state"],
    },
    "calm": {
        "is_calm": ["program"],
        "why_not_calm": ["program"],
        "last_state": ["program", "capacity"],
        "moved_units": ["program", "capacity", "process", "index"],
        "positions": ["program", "capacity"],
        "file_lengths": ["program", "capacity"],
    },
    "hangs": {
        "hangs": ["program", "capacity"],
        "is_ring": ["program", "capacity", "value"],
        "stuck": ["program", "capacity"],
        "waits_for": ["program", "capacity", "process"],
        "ring_in": ["program", "capacity"],
        "safe_capacity": ["program"],
    },
    "cures": {
        "dead_places": ["program"],
        "needed_places": ["program", "capacity"],
        "fewest_closes": ["program", "capacity"],
        "with_closes": ["program", "closes"],
        "tidy": ["program"],
        "can_cure": ["program", "capacity"],
        "is_cure": ["program", "capacity", "value"],
    },
    "shell": {
        "compiled": ["line"],
        "commands_of": ["line"],
        "head_fates": ["written", "taken", "capacity"],
    },
}

# The methods of the class System, with their parameters; a star stands before those that are passed by position.
METHODS = {
    "act": ["process"],
    "go_on": ["process"],
    "finish": [],
    "undo": [],
    "tried": ["*processes"],
    "table": ["process"],
    "twin": [],
    "described": [],
}

# Correct arguments for each name of a parameter.
ARGUMENTS = {
    "words": ["1>&2", "3>f"],
    "other_words": ["2<g"],
    "table": ["a", "b", "c"] + [None] * 7,
    "goal": ["a", "c", "b"] + [None] * 7,
    "calls": [("close", 0), ("copy", 1, 0)],
    "value": [("close", 1)],
    "program": [("pipe", 3, 4), ("fork", [("fork", []), ("pipe", 5, 6), ("open", 7, "f"), ("close", 3)]), ("wait",)],
    "process": (0,),
    "text": "pipe 3 4 fork ( fork ( ) close 3 ) wait",
    "index": 1,
    "end": ("pipe", (), 0, "r"),
    "j": 0,
    "number": 1,
    "other": (),
    "other_index": 3,
    "other_number": 1,
    "capacity": 2,
    "schedule": [(), (), (0,)],
    "closes": [((), 1, 4), ((0,), 2, 6)],
    "line": "gen 5 | cat 1>f",
    "written": 5,
    "taken": 3,
    "state": ((("at", 2, 0), ("at", 1, 0), ("over",)), (0, 0)),
}


def whole(value):
    """A value itself, or the list of what it yields."""
    return list(value) if inspect.isgenerator(value) else value


class Interface(unittest.TestCase):

    def each_function(self):
        for file, functions in FUNCTIONS.items():
            module = importlib.import_module("fdwires." + file)
            for name, parameters in functions.items():
                yield module, name, parameters

    def test_functions_stand_in_their_files(self):
        for module, name, parameters in self.each_function():
            function = getattr(module, name)
            self.assertTrue(inspect.isfunction(function), name)
            self.assertEqual(module.__name__, function.__module__, name)
            self.assertEqual(parameters, list(inspect.signature(function).parameters), name)

    def test_arguments_by_position_and_by_name(self):
        for module, name, parameters in self.each_function():
            function = getattr(module, name)
            by_position = whole(function(*[ARGUMENTS[parameter] for parameter in parameters]))
            by_name = whole(function(**{parameter: ARGUMENTS[parameter] for parameter in reversed(parameters)}))
            self.assertEqual(by_position, by_name, name)

    def test_no_argument_is_changed_and_results_are_equal(self):
        before = repr(ARGUMENTS)
        for module, name, parameters in self.each_function():
            arguments = [ARGUMENTS[parameter] for parameter in parameters]
            first = whole(getattr(module, name)(*arguments))
            shown = repr(first)
            if isinstance(first, (list, dict)):
                self.assertFalse(any(first is argument for argument in arguments), name)
                first.clear()
            self.assertEqual(shown, repr(whole(getattr(module, name)(*arguments))), name)
            self.assertEqual(before, repr(ARGUMENTS), name)

    def test_live_systems(self):
        module = importlib.import_module("fdwires.live")
        for name, bases in (("System", ["object"]), ("CalmSystem", ["System"]), ("CountingSystem", ["System"]),
                            ("CalmCountingSystem", ["CalmSystem", "CountingSystem"])):
            kind = getattr(module, name)
            self.assertEqual("fdwires.live", kind.__module__)
            self.assertEqual(bases, sorted(base.__name__ for base in kind.__bases__))
            self.assertEqual(["program", "capacity"], list(inspect.signature(kind).parameters))
        for name, parameters in METHODS.items():
            method = vars(module.System)[name]
            found = [str(parameter) for parameter in inspect.signature(method).parameters.values()]
            self.assertEqual(["self"] + parameters, found, name)


if __name__ == "__main__":
    unittest.main()
