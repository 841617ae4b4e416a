"""The interface: each name stands in its file, with its arguments, each method in its class's own body."""

import ast
import unittest
from pathlib import Path

PACKAGE = Path(__file__).resolve().parent.parent / "howfar"

WORK_METHODS = {"name": "self", "parts": "self", "steps": "self", "names": "self"}

# Of each file its functions with their arguments, and its classes with their base, methods and arguments.
FUNCTIONS = {
    "runs": {"far": "plan, run, name=None", "told": "plan, run", "falls": "plan, run",
             "worth": "plan, name, run=None", "became": "plan, run"},
    "times": {"left": "plan, run, paces"},
    "hands": {"joined": "tallies"},
    "showing": {"few": "shares, off", "bar": "share, many=20", "percent": "share"},
    "plans": {"apart": "one, other"},
    "texts": {"written": "plan", "read": "text", "written_run": "run", "read_run": "text"},
}
CLASSES = {
    "works": {
        "Work": (None, WORK_METHODS),
        "Leaf": ("Work", {"__init__": "self, name, steps=None", **WORK_METHODS}),
        "Row": ("Work", {"__init__": "self, name, parts", **WORK_METHODS}),
        "Bundle": ("Work", {"__init__": "self, name, parts", **WORK_METHODS}),
    },
    "errors": {
        "FarError": ("ValueError", {}), "BadWork": ("FarError", {}), "BadName": ("FarError", {}),
        "BadRun": ("FarError", {}), "BadPaces": ("FarError", {}), "BadTallies": ("FarError", {}),
        "BadShares": ("FarError", {}), "BadSize": ("FarError", {}), "Unlike": ("FarError", {}),
        "BadRows": ("FarError", {}), "NoDeed": ("FarError", {}),
    },
    "watch": {
        "Watch": (None, {"__init__": "self, plan", "tell": "self, telling", "undo": "self", "far": "self, name=None",
                         "told": "self", "run": "self", "bar": "self, many=20"}),
    },
}


def defined(nodes, kind):
    return {node.name: node for node in nodes if isinstance(node, kind)}


class Interface(unittest.TestCase):
    def body(self, file):
        return ast.parse((PACKAGE / f"{file}.py").read_text()).body

    def assert_functions(self, nodes, wanted):
        functions = defined(nodes, ast.FunctionDef)
        for name, arguments in wanted.items():
            with self.subTest(name):
                self.assertIn(name, functions)
                self.assertEqual(ast.unparse(functions[name].args), arguments)

    def test_functions(self):
        for file, wanted in FUNCTIONS.items():
            with self.subTest(file):
                self.assert_functions(self.body(file), wanted)

    def test_classes(self):
        for file, wanted in CLASSES.items():
            classes = defined(self.body(file), ast.ClassDef)
            for name, (base, methods) in wanted.items():
                with self.subTest(file, name=name):
                    self.assertIn(name, classes)
                    self.assertEqual([each.id for each in classes[name].bases], [base] if base else [])
                    self.assert_functions(classes[name].body, methods)


if __name__ == "__main__":
    unittest.main()
