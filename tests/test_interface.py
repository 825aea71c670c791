"""The names, arguments and places of the interface, and the form of the package's files."""

import ast
import inspect
import os
import unittest

import unknowncorners
from unknowncorners import alike, console, easels, painting, paintings, programs, seen, settings, texts

FOLDER = os.path.dirname(os.path.abspath(unknowncorners.__file__))

INTERFACE = {
    programs: {
        "is_frame": ["value"],
        "is_program": ["frame", "value"],
        "count_statements": ["frame", "program"],
        "fills": ["frame", "program"],
        "reach": ["frame", "program"],
        "corners_of": ["frame", "program"],
    },
    settings: {
        "is_setting": ["frame", "value"],
        "is_facts": ["frame", "value"],
        "plain": ["frame", "setting"],
        "closed": ["frame", "setting", "widths"],
        "close_settings": ["frame", "widths"],
        "keeps": ["frame", "facts", "setting"],
        "possible": ["frame", "facts"],
        "least_setting": ["frame", "facts"],
        "ring": ["frame", "facts"],
    },
    painting: {
        "colour_at": ["frame", "program", "setting", "cell"],
        "picture": ["frame", "program", "setting"],
        "area": ["frame", "program", "setting", "colour"],
        "repaint": ["frame", "program", "setting", "later"],
        "look": ["frame", "program", "setting"],
    },
    alike: {
        "alike": ["frame", "one", "other", "facts"],
        "parting": ["frame", "one", "other", "facts"],
        "under": ["frame", "one", "other"],
        "least_facts": ["frame", "one", "other", "wishes"],
    },
    seen: {
        "seen": ["frame", "program"],
        "seen_at": ["frame", "program", "index"],
        "neighbours": ["frame", "program"],
        "looks": ["frame", "program"],
        "idle": ["frame", "program"],
        "exchangeable": ["frame", "program"],
        "needless": ["frame", "program"],
        "least_parts": ["frame", "program"],
    },
    texts: {
        "write_program": ["frame", "program"],
        "read_program": ["frame", "text"],
        "write_setting": ["frame", "setting"],
        "read_setting": ["frame", "text"],
    },
}
# Each class with the methods and properties that stand in its own body, and what they take behind self.
CLASSES = {
    paintings.Painting: (paintings, {
        "__init__": ["frame", "*statements"], "__len__": [], "__getitem__": 1, "__setitem__": 2,
        "__contains__": 1, "__call__": ["setting", "cell"], "__add__": 1, "__radd__": 1, "__iadd__": 1,
        "__eq__": 1, "__ne__": 1, "__le__": 1, "__lt__": 1, "__bool__": [], "moved": ["across", "down"],
        "clipped": ["box"], "steps": ["setting"], "of_boxes": ["frame", "*boxes", "colour"],
    }, ["frame", "program"]),
    easels.Easel: (easels, {
        "__init__": ["frame", "program"], "put": ["statement"], "take": ["index"],
        "shift": ["axis", "number", "by"], "undo": [], "twin": [], "trying": [], "tried": ["shifts"],
    }, ["frame", "program", "setting", "picture", "deeds"]),
    easels.CountingEasel: (easels, {"__init__": ["frame", "program"], "twin": []}, ["cells"]),
    easels.CarefulEasel: (easels, {
        "__init__": ["frame", "program", "facts"], "shift": ["axis", "number", "by"],
        "tried": ["shifts"], "twin": [],
    }, ["facts"]),
    easels.CarefulCountingEasel: (easels, {"__init__": ["frame", "program", "facts"], "twin": []}, []),
    console.Console: (console, {"__init__": ["frame"], "execute": ["command"]}, []),
}
# The only parameters with a default value.
DEFAULTS = {("alike", "facts"): (), ("parting", "facts"): ()}
METHOD_DEFAULTS = {("moved", "across"): 0, ("moved", "down"): 0, ("of_boxes", "colour"): 1}


def source_files():
    return sorted(name for name in os.listdir(FOLDER) if name != "__pycache__")


def source_of(name):
    with open(os.path.join(FOLDER, name), encoding="ascii") as file:
        return file.read()


class InterfaceTest(unittest.TestCase):
    def test_functions_are_defined_in_their_files(self):
        for module, functions in INTERFACE.items():
            for name, parameters in functions.items():
                with self.subTest(name):
                    function = getattr(module, name)
                    self.assertEqual(function.__module__, module.__name__)
                    self.assertEqual(function.__name__, name)
                    told = inspect.signature(function).parameters.values()
                    self.assertEqual([each.name for each in told], parameters)
                    for each in told:
                        self.assertEqual(each.kind, each.POSITIONAL_OR_KEYWORD)
                        self.assertEqual(each.default, DEFAULTS.get((name, each.name), each.empty))


class ClassesTest(unittest.TestCase):
    def test_classes_are_defined_in_their_files(self):
        for kind, (module, methods, properties) in CLASSES.items():
            self.assertEqual(kind.__module__, module.__name__)
            self.assertIs(getattr(module, kind.__name__), kind)

    def test_methods_are_defined_in_their_classes(self):
        for kind, (module, methods, properties) in CLASSES.items():
            for name, due in methods.items():
                with self.subTest(f"{kind.__name__}.{name}"):
                    found = vars(kind)[name]
                    told = list(inspect.signature(getattr(found, "__func__", found)).parameters.values())[1:]
                    if type(due) is int:
                        self.assertEqual(len(told), due)
                        continue
                    names = [("*" if each.kind == each.VAR_POSITIONAL else "") + each.name for each in told]
                    self.assertEqual(names, due)
                    for each in told:
                        self.assertEqual(each.default, METHOD_DEFAULTS.get((name, each.name), each.empty))

    def test_properties_are_defined_in_their_classes(self):
        for kind, (module, methods, properties) in CLASSES.items():
            for name in properties:
                self.assertIs(type(vars(kind)[name]), property, name)

    def test_of_boxes_is_a_class_method(self):
        self.assertIs(type(vars(paintings.Painting)["of_boxes"]), classmethod)

    def test_blocks_have_their_methods(self):
        block = easels.Easel((1, 1), ()).trying()
        for name in ("begin", "finish", "__enter__", "__exit__"):
            self.assertIn(name, vars(type(block)))


class FormTest(unittest.TestCase):
    def test_the_folder_holds_python_files_alone(self):
        for name in source_files():
            self.assertRegex(name, r"\A[a-z_]+\.py\Z")

    def test_lines_and_files_are_short(self):
        for name in source_files():
            lines = source_of(name).split("\n")
            self.assertLessEqual(len(lines), 400, name)
            for line in lines:
                self.assertLessEqual(len(line), 120, name)
                self.assertEqual(line, line.rstrip(), name)
                self.assertNotIn("\t", line, name)

    def test_functions_are_short_and_plain(self):
        for name in source_files():
            for node in ast.walk(ast.parse(source_of(name))):
                if isinstance(node, ast.FunctionDef):
                    self.assertLessEqual(node.end_lineno - node.lineno + 1, 40, node.name)

    def test_imports_are_from_the_package_alone(self):
        for name in source_files():
            for node in ast.walk(ast.parse(source_of(name))):
                self.assertNotIsInstance(node, ast.Import, name)
                if isinstance(node, ast.ImportFrom):
                    self.assertEqual(node.level, 0, name)
                    self.assertRegex(node.module, r"\Aunknowncorners\.[a-z]+\Z", name)

    def test_no_floats_and_no_division(self):
        for name in source_files():
            for node in ast.walk(ast.parse(source_of(name))):
                self.assertNotIsInstance(node, ast.Div, name)
                if isinstance(node, ast.Constant):
                    self.assertNotIsInstance(node.value, (float, complex), name)


if __name__ == "__main__":
    unittest.main()
