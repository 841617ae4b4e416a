"""The rules of the language that a look at the package's files can tell, by their numbers in LANGUAGE.md."""

import ast
import re
import unittest
import warnings
from pathlib import Path

PACKAGE = Path(__file__).resolve().parent.parent / "howfar"

LIBRARY = {"heapq": "heappush heappop heapify heapreplace heappushpop", "math": "gcd lcm isqrt comb perm factorial",
           "itertools": "product combinations permutations"}
BUILTINS = """len range enumerate zip min max sum abs sorted reversed int str bool list tuple dict set frozenset
    isinstance ord repr any all divmod iter next Exception ValueError TypeError KeyError IndexError LookupError
    ZeroDivisionError ArithmeticError OverflowError RuntimeError NotImplementedError AttributeError StopIteration
    NotImplemented super property staticmethod classmethod bytes""".split()
BARRED = """register mro elements open input law version_info with_traceback add_note attrgetter breakpoint builtins
    compile copyright credits delattr dir eval exec exit gc getattr globals hasattr help id importlib license locals
    methodcaller os quit setattr type vars sys format format_map chr print float complex hash map filter round""".split()
BARRED_WORDS = """type typing enum Enum Flag Generic Protocol ABC ABCMeta namedtuple NamedTuple TypedDict dataclass
    overload contextmanager""".split()
VALUE_METHODS = """append clear copy count endswith extend find get index insert isalnum isalpha isdigit islower isspace
    isupper items join keys ljust lower lstrip partition pop remove replace reverse rfind rjust rpartition rsplit rstrip
    setdefault split splitlines startswith strip update upper values zfill bit_length isascii isdecimal removeprefix
    removesuffix rindex add discard sort""".split()
SPECIAL = "__init__ __eq__ __repr__ __str__ __len__ __enter__ __exit__ __call__ __iter__".split()
MODULE_LEVEL = (ast.ImportFrom, ast.FunctionDef, ast.ClassDef, ast.Assign, ast.Expr)
UNUSED = (ast.Global, ast.Import, ast.AsyncFunctionDef, ast.AsyncFor, ast.AsyncWith, ast.Await, ast.Set, ast.Div)


class Language(unittest.TestCase):
    def setUp(self):
        self.files = {path: path.read_text() for path in sorted(PACKAGE.rglob("*.py"))}
        with warnings.catch_warnings():
            warnings.simplefilter("error")
            self.trees = {path: ast.parse(text) for path, text in self.files.items()}
        self.own_methods = {node.name for tree in self.trees.values() for each in ast.walk(tree)
                            if isinstance(each, ast.ClassDef) for node in each.body
                            if isinstance(node, ast.FunctionDef)}

    def nodes(self, kind):
        """All nodes of a kind, each behind the file and the line where it stands."""
        for path, tree in self.trees.items():
            for node in ast.walk(tree):
                if isinstance(node, kind):
                    yield f"{path.name}:{getattr(node, 'lineno', 0)}", node

    def test_l1_l14_only_plain_files(self):
        for path in PACKAGE.rglob("*"):
            if "__pycache__" not in path.parts:
                self.assertTrue(path.is_dir() or path.suffix == ".py", path)
                self.assertRegex(path.stem, "^(__init__|[a-z][a-z0-9_]*)$")
        self.assertIn(PACKAGE / "__init__.py", self.files)

    def test_l10_l14_size_and_signs(self):
        for path, text in self.files.items():
            self.assertLessEqual(len(text.splitlines()), 399, path)
            for line in text.split("\n"):
                self.assertLessEqual(len(line), 120, path)
                self.assertTrue(all(" " <= sign <= "~" for sign in line), (path, line))
        for place, node in self.nodes(ast.FunctionDef):
            self.assertLessEqual(node.end_lineno - node.lineno + 1, 40, place)

    def test_l2_l16_imports(self):
        seen = {}
        for place, node in self.nodes(ast.ImportFrom):
            self.assertEqual(node.level, 0, place)
            module = node.module.split(".")
            for alias in node.names:
                self.assertIs(alias.asname, None, place)
                if module[0] != "howfar":
                    self.assertIn(alias.name, LIBRARY.get(node.module, "").split(), place)
                    continue
                named = PACKAGE.joinpath(*module[1:]).with_suffix(".py")
                bound = [each for each in self.trees[named].body if getattr(each, "name", None) == alias.name
                         or isinstance(each, ast.Assign) and each.targets[0].id == alias.name]
                self.assertEqual(len(bound), 1, place)
                seen.setdefault(PACKAGE / place.split(":")[0], set()).add(named)
        for start in seen:
            reached, ahead = set(), [start]
            while ahead:
                for other in seen.get(ahead.pop(), ()):
                    self.assertNotEqual(other, start, "files import from each other")
                    if other not in reached:
                        reached.add(other)
                        ahead.append(other)

    def test_l3_l15_module_level(self):
        for path, tree in self.trees.items():
            names = []
            for node in tree.body:
                self.assertIsInstance(node, MODULE_LEVEL, path)
                if isinstance(node, ast.Expr):
                    self.assertIsInstance(node.value, ast.Constant)
                elif isinstance(node, ast.Assign):
                    self.assertEqual([type(target) for target in node.targets], [ast.Name])
                    names.append(node.targets[0].id)
                elif isinstance(node, ast.ImportFrom):
                    names.extend(alias.name for alias in node.names)
                else:
                    names.append(node.name)
            self.assertEqual(len(names), len(set(names)), path)

    def test_l15_no_local_name_hides_an_import_or_a_class(self):
        for path, tree in self.trees.items():
            outer = {alias.name for node in tree.body if isinstance(node, ast.ImportFrom) for alias in node.names}
            outer |= {node.name for node in tree.body if isinstance(node, ast.ClassDef)}
            for function in ast.walk(tree):
                if isinstance(function, ast.FunctionDef):
                    local = {node.arg for node in ast.walk(function) if isinstance(node, ast.arg)}
                    local |= {node.id for node in ast.walk(function) if isinstance(node, ast.Name)
                              and isinstance(node.ctx, ast.Store)}
                    local |= {node.name for node in ast.walk(function)
                              if isinstance(node, (ast.MatchAs, ast.MatchStar))}
                    self.assertEqual(local & outer, set(), (path, function.name))

    def test_l6_captured_names_are_read_in_their_own_case_alone(self):
        for place, function in self.nodes(ast.FunctionDef):
            captured = {node.name for node in ast.walk(function) if isinstance(node, ast.MatchAs) and node.name}
            bound = {node.arg for node in ast.walk(function) if isinstance(node, ast.arg)}
            bound |= {node.id for node in ast.walk(function) if isinstance(node, ast.Name)
                      and isinstance(node.ctx, ast.Store)}
            self.assertEqual(captured & bound, set(), place)
            read = [node for node in ast.walk(function) if isinstance(node, ast.Name) and node.id in captured]
            within = [node for case in ast.walk(function) if isinstance(case, ast.match_case)
                      for own in [{each.name for each in ast.walk(case.pattern) if isinstance(each, ast.MatchAs)}]
                      for row in case.body for node in ast.walk(row) if isinstance(node, ast.Name) and node.id in own]
            self.assertEqual(len(read), len(within), place)

    def test_l20_is_stands_beside_none_true_and_false(self):
        for place, node in self.nodes(ast.Compare):
            for sign, right in zip(node.ops, node.comparators):
                if isinstance(sign, (ast.Is, ast.IsNot)):
                    self.assertIsInstance(right, ast.Constant, place)

    def test_l5_l18_classes(self):
        for place, node in self.nodes(ast.ClassDef):
            self.assertEqual(node.decorator_list, [], place)
            methods = [each.name for each in node.body if isinstance(each, ast.FunctionDef)]
            for name in methods:
                self.assertTrue(not name.startswith("__") or name in SPECIAL, (place, name))
            stored = {each.attr for each in ast.walk(node) if isinstance(each, ast.Attribute)
                      and isinstance(each.ctx, ast.Store)}
            self.assertEqual(stored & set(methods), set(), place)

    def test_l6_l7_what_is_not_used(self):
        for place, node in self.nodes(UNUSED):
            self.fail((place, ast.dump(node)))
        for place, node in self.nodes((ast.FunctionDef, ast.Lambda)):
            for decorator in getattr(node, "decorator_list", []):
                self.assertRegex(ast.unparse(decorator), "^(property|staticmethod|classmethod|.*[.]setter)$", place)
        for place, node in self.nodes(ast.ExceptHandler):
            self.assertIsInstance(node.type, (ast.Name, ast.Tuple), place)

    def test_l7_l17_l27_values(self):
        for place, node in self.nodes(ast.Constant):
            self.assertNotIsInstance(node.value, (float, complex), place)
            if isinstance(node.value, str):
                self.assertNotIn("%", node.value, place)
                self.assertEqual(set(re.findall(r"\w+", node.value)) & set(BARRED_WORDS), set(), place)
                self.assertFalse(node.value.startswith("__") or node.value.endswith(("._", ".__")), place)

    def test_l8_l12_l17_names(self):
        for place, node in self.nodes((ast.Name, ast.arg, ast.FunctionDef, ast.ClassDef, ast.Attribute)):
            name = next(getattr(node, field) for field in ("id", "arg", "name", "attr") if hasattr(node, field))
            if name not in SPECIAL:
                self.assertRegex(name, "^(_?[A-Za-z][A-Za-z0-9_]*|_)$", place)
            self.assertNotIn(name, BARRED, place)
            read = isinstance(node, ast.Name) and isinstance(node.ctx, ast.Load)
            if not read and not isinstance(node, ast.Attribute):
                self.assertNotIn(name, BUILTINS, place)

    def test_l8_only_known_names_are_read(self):
        for path, tree in self.trees.items():
            known = set(BUILTINS)
            for node in ast.walk(tree):
                if isinstance(node, ast.Name) and isinstance(node.ctx, ast.Store):
                    known.add(node.id)
                elif isinstance(node, ast.arg):
                    known.add(node.arg)
                elif isinstance(node, (ast.FunctionDef, ast.ClassDef, ast.ExceptHandler, ast.alias, ast.MatchAs)):
                    known.add(node.name)
            for node in ast.walk(tree):
                if isinstance(node, ast.Name):
                    self.assertIn(node.id, known, f"{path.name}:{node.lineno}")

    def test_l25_methods(self):
        for place, node in self.nodes(ast.Call):
            if isinstance(node.func, ast.Attribute):
                self.assertIn(node.func.attr, [*VALUE_METHODS, *self.own_methods], place)


if __name__ == "__main__":
    unittest.main()
