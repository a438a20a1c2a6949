"""The interface: its names, arguments and files."""

import ast
import importlib
import inspect
import pathlib
import unittest

PACKAGE = pathlib.Path(__file__).resolve().parent.parent / "laytwice"
CLASSES = {
    "errors": {
        "LayError": None,
        "InvalidPiece": "(word)",
        "InvalidProgram": "(at)",
        "InvalidText": "(at)",
        "InvalidRow": "(part)",
        "InvalidTool": "(at)",
        "InvalidGoal": None,
        "InvalidCommand": None,
        "Refused": "(word)",
        "NoPiece": "(at)",
        "NoRow": "(at)",
    },
    "pieces": {
        "Piece": "(word, parts, broken=False, marked=False, ahead='', behind='', blanks=0, left=False)",
    },
    "programs": {"Program": "(pieces=())"},
    "tools": {"Row": "(tests=(), deeds=())", "Tool": "(rows=(), sorts=False)"},
    "sheet": {"Sheet": "(tool, width, program)"},
    "desk": {"Desk": "()"},
}
METHODS = {
    ("pieces", "Piece"): {"but": "(self, **others)", "__eq__": None},
    ("programs", "Program"): {
        "read": "(text)", "__len__": None, "__getitem__": None, "__add__": None, "__eq__": None, "__str__": None,
    },
    ("tools", "Row"): {"__eq__": None, "__str__": None},
    ("tools", "Tool"): {
        "without": "(self, at)", "read": "(text)", "__len__": None, "__getitem__": None, "__add__": None,
        "__eq__": None, "__str__": None,
    },
    ("sheet", "Sheet"): {
        "put": "(self, at, piece)", "take": "(self, at)", "change": "(self, at, piece)", "run": "(self)",
        "use": "(self, tool)", "undo": "(self)", "trial": "(self)", "within": "(self, work)", "__len__": None,
    },
    ("desk", "Desk"): {"say": "(self, command)", "__len__": None},
}
FUNCTIONS = {
    "running": {"run": "(tool, width, program)", "runs": "(tool, width, program, most)"},
    "forms": {"form_of": "(piece, width)", "lay": "(tool, before, form)"},
    "deciding": {
        "happens": "(tool, goal)", "example": "(tool, goal)", "goals": "(tool)", "comes": "(tool, at)",
        "reach": "(tool)",
    },
    "papers": {"paper": "(tool, goal)", "paper_holds": "(tool, goal, value)"},
    "comparing": {"alike": "(p, q)", "parting": "(p, q)", "commute": "(p, q)", "crossing": "(p, q)"},
    "mending": {"needless": "(tool, wanted)", "repairs": "(tool, wanted)", "idle": "(tool)"},
}
# The modules in the order of the document, in which each needs only earlier ones; `kinds` and `history` need none.
MODULES = (
    "kinds", "history", "errors", "pieces", "programs", "tools", "running", "forms", "deciding", "papers", "comparing",
    "mending", "sheet", "desk",
)


def module(name):
    return importlib.import_module(f"laytwice.{name}")


def defined_in(path):
    """The functions, classes and values that a file defines."""
    found = set()
    for one in ast.parse(path.read_text()).body:
        if isinstance(one, (ast.FunctionDef, ast.ClassDef)):
            found.add(one.name)
        if isinstance(one, ast.Assign):
            found.update(target.id for target in one.targets)
    return found


class InterfaceTest(unittest.TestCase):
    def test_classes(self):
        for name, classes in CLASSES.items():
            for word, signature in classes.items():
                found = getattr(module(name), word)
                self.assertEqual(found.__module__, f"laytwice.{name}")
                if signature is not None:
                    self.assertEqual(str(inspect.signature(found)), signature, word)

    def test_functions(self):
        for name, functions in FUNCTIONS.items():
            for word, signature in functions.items():
                found = getattr(module(name), word)
                self.assertTrue(inspect.isfunction(found))
                self.assertEqual(found.__module__, f"laytwice.{name}")
                self.assertEqual(str(inspect.signature(found)), signature, word)
        self.assertIsInstance(module("forms").FORMS, tuple)

    def test_methods_stand_in_the_class_itself(self):
        for (name, word), methods in METHODS.items():
            found = getattr(module(name), word)
            for method, signature in methods.items():
                self.assertIn(method, vars(found))
                if signature is not None:
                    self.assertEqual(str(inspect.signature(getattr(found, method))), signature, method)
        self.assertIsInstance(vars(module("pieces").Piece)["bare"], property)
        for word in ("program", "tool"):
            self.assertIsInstance(vars(module("sheet").Sheet)[word], property)
        self.assertIsNotNone(vars(module("sheet").Sheet)["tool"].fset)
        for name, word in (("programs", "Program"), ("tools", "Tool")):
            self.assertIsInstance(vars(getattr(module(name), word))["read"], classmethod)

    def test_the_package_file_is_empty_but_for_a_docstring(self):
        body = ast.parse((PACKAGE / "__init__.py").read_text()).body
        self.assertEqual(len(body), 1)
        self.assertIsInstance(body[0].value.value, str)


class FilesTest(unittest.TestCase):
    """What of the rules for the code can be counted: characters, lines, and where names come from."""

    def files(self):
        return sorted(PACKAGE.rglob("*.py"))

    def test_characters_and_lines(self):
        for path in self.files():
            text = path.read_bytes().decode("ascii")
            self.assertTrue(all(one == "\n" or " " <= one <= "~" for one in text), path)
            lines = text.split("\n")
            self.assertLessEqual(len(lines), 399, path)
            self.assertLessEqual(max(len(line) for line in lines), 120, path)

    def test_functions_are_short(self):
        for path in self.files():
            for node in ast.walk(ast.parse(path.read_text())):
                if isinstance(node, ast.FunctionDef):
                    self.assertLessEqual(node.end_lineno - node.lineno + 1, 40, node.name)

    def test_imports_name_an_earlier_file_that_defines(self):
        self.assertEqual(sorted(path.stem for path in self.files()), sorted(("__init__", *MODULES)))
        for path in self.files():
            for node in ast.walk(ast.parse(path.read_text())):
                self.assertNotIsInstance(node, ast.Import)
                if isinstance(node, ast.ImportFrom):
                    package, name = node.module.split(".")
                    self.assertEqual(package, "laytwice")
                    self.assertLess(MODULES.index(name), MODULES.index(path.stem))
                    self.assertLessEqual({one.name for one in node.names}, defined_in(PACKAGE / f"{name}.py"))
