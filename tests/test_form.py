"""The names of the interface, and the rules on the form of the code that can be counted."""

import ast
import builtins
import importlib
import inspect
import pathlib
import unittest
from functools import lru_cache

FOLDER = pathlib.Path(__file__).resolve().parent.parent / "dueclocks"

FUNCTIONS = {
    "work": {
        "work": ["calendar", "begin", "end"],
        "due": ["calendar", "moment", "amount"],
        "latest": ["calendar", "moment", "amount"],
        "next_open": ["calendar", "moment"],
        "last_open": ["calendar", "moment"],
        "count_open": ["calendar", "begin", "end"],
        "nth_open": ["calendar", "moment", "index"],
        "first_unlike": ["calendar", "other"],
    },
    "rules": {
        "in_turn": ["rule", "others"],
        "later_of": ["rule", "others"],
        "earlier_of": ["rule", "others"],
    },
    "compare": {
        "parting": ["rule", "other"],
        "first_later": ["rule", "other"],
        "parting_in_turn": ["rule", "other"],
        "followed": ["rule", "whole"],
        "soonest": ["rule"],
        "is_wait": ["rule"],
    },
    "waits": {
        "least_wait": ["rule"],
        "greatest_wait": ["rule"],
        "count_waits": ["rule", "begin", "end", "wait"],
        "sum_waits": ["rule", "begin", "end"],
        "nth_wait": ["rule", "begin", "wait", "index"],
        "waits_from": ["rule", "begin", "many"],
    },
    "reached": {
        "starts": ["rule", "moment"],
        "count_reached": ["rule", "begin", "end"],
        "nth_reached": ["rule", "begin", "index"],
        "first_missed": ["rule"],
    },
    "far": {
        "after": ["rule", "moment", "times"],
        "orbit": ["rule", "moment", "times"],
        "times_until": ["rule", "moment", "goal"],
        "rates": ["rule"],
    },
    "texts": {
        "show_calendar": ["calendar"],
        "show_rule": ["rule"],
    },
    "readings": {
        "read_calendar": ["text"],
        "read_rule": ["text"],
    },
}
CLASSES = {
    "errors": {
        name: []
        for name in (
            "DueError", "InvalidWeek", "InvalidSpeed", "NeverOpen", "InvalidChange",
            "InvalidAmount", "InvalidSpan", "InvalidMoment", "UnlikeWeeks", "NotRising",
            "WrongState", "NothingToUndo", "TooMany", "Unreadable",
        )
    },
    "calendars": {
        "Calendar": [
            "__init__", "week", "speeds", "changes", "__getitem__", "__contains__",
            "__or__", "__and__", "moved", "__eq__",
        ],
    },
    "rules": {
        "Rule": [
            "__init__", "week", "base", "changes", "__call__", "__contains__", "__eq__",
            "__rshift__", "__or__", "__and__", "__invert__", "__mul__", "__rmul__",
            "promise", "opening", "delay",
        ],
    },
    "tickets": {
        "Ticket": [
            "__init__", "moment", "left", "is_paused", "pause", "resume", "switch", "enlarge",
            "undo", "left_at", "done_at", "can_wait", "story", "__len__", "__eq__",
        ],
        "ShortTicket": ["__init__", "pause", "resume", "switch", "enlarge"],
    },
}
METHODS_WITH_ARGUMENTS = {
    ("calendars", "Calendar"): {
        "__init__": ["speeds", "changes"], "moved": ["number"],
    },
    ("rules", "Rule"): {
        "__init__": ["base", "changes"],
    },
    ("tickets", "Ticket"): {
        "__init__": ["calendar", "amount", "moment"], "pause": ["moment"], "resume": ["moment"],
        "switch": ["calendar", "moment"], "enlarge": ["amount", "moment"], "undo": [],
        "left_at": ["moment"], "done_at": [], "can_wait": ["limit"], "story": [],
    },
    ("tickets", "ShortTicket"): {
        "__init__": ["calendar", "amount", "moment", "most"], "pause": ["moment"],
        "resume": ["moment"], "switch": ["calendar", "moment"], "enlarge": ["amount", "moment"],
    },
}
PROPERTIES = {
    ("calendars", "Calendar"): ["week", "speeds", "changes"],
    ("rules", "Rule"): ["week", "base", "changes"],
    ("tickets", "Ticket"): ["moment", "left", "is_paused"],
}
LIBRARY = {"math": ["gcd"]}
ITERATED_AT_ONCE = {"range", "zip", "enumerate", "reversed"}
ITERATING = {"list", "tuple", "dict", "sorted", "sum", "any", "all", "min", "max", "zip", "enumerate"}
BUILTINS = (
    "len range enumerate zip min max sum abs sorted reversed int str bool list tuple dict set "
    "isinstance ord repr any all divmod ValueError TypeError KeyError super"
).split()
METHODS = {"__init__", "__eq__", "__len__", "__call__", "__iter__", "__getitem__", "__contains__",
           "__or__", "__and__", "__rshift__", "__invert__", "__mul__", "__rmul__"}
DECORATORS = {"property", "classmethod", "staticmethod"}
METHODS_OF_VALUES = (
    "append clear copy count endswith extend find get index insert isalnum isalpha isdigit islower "
    "isspace isupper items join keys ljust lower lstrip partition pop remove replace reverse rfind "
    "rjust rpartition rsplit rstrip setdefault split splitlines startswith strip update upper values "
    "zfill bit_length"
).split()
STATEMENTS_BARRED = (
    ast.AsyncFunctionDef, ast.AsyncFor, ast.AsyncWith, ast.Await, ast.Global, ast.Import,
)


def sources():
    return sorted(FOLDER.rglob("*.py"))


@lru_cache(maxsize=None)
def tree(path):
    """Return the nodes of a file, each time the very same ones."""
    return ast.parse(path.read_text(encoding="utf-8"))


def nodes(path, *kinds):
    return [node for node in ast.walk(tree(path)) if isinstance(node, kinds)]


class InterfaceTest(unittest.TestCase):
    def test_functions_stand_in_their_files_with_their_arguments(self):
        for file, functions in FUNCTIONS.items():
            module = importlib.import_module(f"dueclocks.{file}")
            for name, arguments in functions.items():
                function = getattr(module, name)
                self.assertEqual(function.__module__, f"dueclocks.{file}")
                self.assertEqual(list(inspect.signature(function).parameters), arguments)

    def test_classes_stand_in_their_files_with_their_own_methods(self):
        for file, classes in CLASSES.items():
            module = importlib.import_module(f"dueclocks.{file}")
            for name, methods in classes.items():
                self.assertEqual(getattr(module, name).__module__, f"dueclocks.{file}")
                for method in methods:
                    self.assertIn(method, vars(getattr(module, name)))

    def test_methods_with_their_arguments(self):
        for (file, name), methods in METHODS_WITH_ARGUMENTS.items():
            module = importlib.import_module(f"dueclocks.{file}")
            for method, arguments in methods.items():
                parameters = inspect.signature(vars(getattr(module, name))[method]).parameters
                self.assertEqual(list(parameters), ["self", *arguments])

    def test_properties(self):
        for (file, name), properties in PROPERTIES.items():
            module = importlib.import_module(f"dueclocks.{file}")
            for one in properties:
                self.assertIsInstance(vars(getattr(module, name))[one], property)

    def test_class_methods(self):
        rules = importlib.import_module("dueclocks.rules")
        for name, arguments in (
            ("promise", ["calendar", "amount"]), ("opening", ["calendar"]), ("delay", ["week", "number"]),
        ):
            self.assertIsInstance(vars(rules.Rule)[name], classmethod)
            method = getattr(rules.Rule, name)
            self.assertEqual(list(inspect.signature(method).parameters), arguments)


class FormTest(unittest.TestCase):
    def test_the_folder_holds_nothing_but_its_files(self):
        for path in FOLDER.rglob("*"):
            if "__pycache__" not in path.parts:
                self.assertTrue(path.is_file() and path.suffix == ".py", path)

    def test_sizes_and_characters(self):
        for path in sources():
            text = path.read_text(encoding="ascii")
            self.assertLessEqual(len(text.splitlines()), 399, path)
            for line in text.splitlines():
                self.assertLessEqual(len(line), 120, path)
                self.assertTrue(line == "" or line.isprintable(), (path, line))

    def test_functions_are_short(self):
        for path in sources():
            for node in nodes(path, ast.FunctionDef):
                self.assertLessEqual(node.end_lineno - node.lineno + 1, 40, (path, node.name))

    def test_imports_name_what_the_package_defines(self):
        for path in sources():
            for node in nodes(path, ast.ImportFrom):
                self.assertEqual(node.level, 0, path)
                for alias in node.names:
                    self.assertIsNone(alias.asname, path)
                    if node.module in LIBRARY:
                        self.assertIn(alias.name, LIBRARY[node.module], path)
                    else:
                        self.assertRegex(node.module, "^dueclocks[.]", path)
                        module = importlib.import_module(node.module)
                        self.assertEqual(getattr(module, alias.name).__module__, node.module)

    def test_no_barred_statements_and_no_annotations(self):
        for path in sources():
            self.assertEqual(nodes(path, *STATEMENTS_BARRED, ast.AnnAssign), [], path)
            for node in nodes(path, ast.FunctionDef):
                arguments = node.args.args + node.args.kwonlyargs
                self.assertTrue(all(one.annotation is None for one in arguments), path)

    def test_no_floats_and_no_true_division(self):
        for path in sources():
            self.assertEqual(nodes(path, ast.Div), [], path)
            for node in nodes(path, ast.Constant):
                self.assertNotIsInstance(node.value, (float, complex), path)

    def test_only_known_decorators_and_double_underscores(self):
        for path in sources():
            for node in nodes(path, ast.FunctionDef):
                for decorator in node.decorator_list:
                    self.assertIn(decorator.id, DECORATORS, path)
                if node.name.startswith("__"):
                    self.assertIn(node.name, METHODS, path)

    def test_only_listed_builtins_and_none_with_another_meaning(self):
        # A doctest leaves the name _ among the builtins.
        barred = set(dir(builtins)) - {"_"}
        for path in sources():
            for node in nodes(path, ast.Name):
                if node.id in barred and node.id not in DECORATORS:
                    self.assertIn(node.id, BUILTINS, path)
                    self.assertIsInstance(node.ctx, ast.Load, (path, node.id))
            for node in nodes(path, ast.arg):
                self.assertNotIn(node.arg, barred, path)

    def test_what_is_iterated_at_once_is_not_passed_on(self):
        for path in sources():
            every = nodes(path, ast.For, ast.comprehension, ast.Call)
            calls = [node for node in every if isinstance(node, ast.Call) and isinstance(node.func, ast.Name)]
            iterated = [node.iter for node in every if not isinstance(node, ast.Call)]
            iterated += [one for node in calls if node.func.id in ITERATING for one in node.args]
            for node in calls:
                if node.func.id in ITERATED_AT_ONCE:
                    self.assertTrue(any(node is one for one in iterated), (path, node.lineno))

    def test_no_local_name_is_that_of_a_class_or_an_import(self):
        for path in sources():
            held = {alias.name for node in nodes(path, ast.ImportFrom) for alias in node.names}
            held |= {node.name for node in nodes(path, ast.ClassDef)}
            for node in nodes(path, ast.Name):
                self.assertFalse(isinstance(node.ctx, ast.Store) and node.id in held, (path, node.id))
            for node in nodes(path, ast.arg):
                self.assertNotIn(node.arg, held, path)

    def test_methods_that_are_called_are_own_ones_or_listed(self):
        own = {node.name for path in sources() for node in nodes(path, ast.FunctionDef)}
        for path in sources():
            for node in nodes(path, ast.Call):
                if isinstance(node.func, ast.Attribute):
                    self.assertIn(node.func.attr, {*own, *METHODS_OF_VALUES}, (path, node.lineno))

    def test_no_name_is_a_method_and_an_attribute(self):
        methods = {
            node.name
            for path in sources()
            for one in nodes(path, ast.ClassDef)
            for node in one.body
            if isinstance(node, ast.FunctionDef)
        }
        stored = {
            node.attr
            for path in sources()
            for node in nodes(path, ast.Attribute)
            if isinstance(node.ctx, ast.Store)
        }
        read = {node.attr for path in sources() for node in nodes(path, ast.Attribute)}
        self.assertEqual(methods & stored, set())
        self.assertLessEqual(read, {*methods, *stored, *METHODS_OF_VALUES})

    def test_generators_have_names_of_their_own_and_are_iterated_at_once(self):
        functions = [node for path in sources() for node in nodes(path, ast.FunctionDef)]
        yielding = [node.name for node in functions if any(isinstance(one, ast.Yield) for one in ast.walk(node))]
        self.assertEqual(sorted(yielding), ["orbit", "waits_from"])
        for name in yielding:
            self.assertEqual([node.name for node in functions].count(name), 1)
        for path in sources():
            named = [node for node in nodes(path, ast.Name) if node.id in yielding]
            called = [
                node.args[0].func
                for node in nodes(path, ast.Call)
                if isinstance(node.func, ast.Name) and node.func.id in ITERATING - {"min", "max"}
                and len(node.args) == 1 and isinstance(node.args[0], ast.Call)
            ]
            for node in named:
                self.assertTrue(any(node is one for one in called), (path, node.lineno))
            self.assertEqual(nodes(path, ast.GeneratorExp), [], path)

    def test_sets_are_only_sorted_counted_or_asked(self):
        for path in sources():
            plain = []
            for node in nodes(path, ast.Call, ast.Compare):
                if isinstance(node, ast.Compare):
                    plain += node.comparators
                elif getattr(node.func, "id", "") in ("sorted", "len") and not node.keywords:
                    plain += node.args
            for node in nodes(path, ast.Set, ast.SetComp, ast.Call):
                if not isinstance(node, ast.Call) or getattr(node.func, "id", "") == "set":
                    self.assertTrue(any(node is one for one in plain), (path, node.lineno))

    def test_only_own_errors_are_raised_and_caught(self):
        for path in sources():
            for node in nodes(path, ast.Try):
                self.assertEqual((node.orelse, node.finalbody), ([], []), path)
                for handler in node.handlers:
                    self.assertIn(handler.type.id, CLASSES["errors"], path)
            for node in nodes(path, ast.Raise):
                self.assertIsInstance(node.exc, ast.Call, path)
                self.assertIn(node.exc.func.id, {*CLASSES["errors"], "TypeError"}, path)
                self.assertTrue(node.cause is None or node.cause.value is None, path)

    def test_super_stands_only_as_a_call_of_a_method(self):
        for path in sources():
            named = [node for node in nodes(path, ast.Name) if node.id == "super"]
            called = [
                node.func.value.func
                for node in nodes(path, ast.Call)
                if isinstance(node.func, ast.Attribute) and not node.func.attr.startswith("__")
                and isinstance(node.func.value, ast.Call) and node.func.value.args == []
            ]
            for node in named:
                self.assertTrue(any(node is one for one in called), (path, node.lineno))

    def test_strings_are_plain(self):
        for path in sources():
            for node in nodes(path, ast.Constant):
                if isinstance(node.value, str):
                    self.assertNotIn("%", node.value, (path, node.lineno))
                    self.assertNotIn("__", node.value, (path, node.lineno))

    def test_no_file_imports_from_one_that_imports_from_it(self):
        ahead = {
            path.stem: {node.module.split(".")[1] for node in nodes(path, ast.ImportFrom) if "." in node.module}
            for path in sources()
        }
        while ahead:
            free = [name for name, needed in ahead.items() if not needed]
            self.assertNotEqual(free, [], ahead)
            ahead = {name: needed - set(free) for name, needed in ahead.items() if name not in free}

    def test_each_module_level_name_is_bound_once(self):
        for path in sources():
            bound = []
            for node in tree(path).body:
                if isinstance(node, ast.ImportFrom):
                    bound += [alias.name for alias in node.names]
                elif isinstance(node, (ast.FunctionDef, ast.ClassDef)):
                    bound.append(node.name)
                elif isinstance(node, ast.Assign):
                    bound += [target.id for target in node.targets]
                else:
                    self.assertIsInstance(node.value.value, str, (path, "not a docstring"))
            self.assertEqual(len(bound), len(set(bound)), path)


if __name__ == "__main__":
    unittest.main()
