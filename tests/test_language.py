"""Checks of the rules in LANGUAGE.md that can be read off the files of the package."""

import ast
import builtins
import pathlib
import re
import unittest
import warnings

PACKAGE = pathlib.Path(__file__).resolve().parent.parent / "cabmeters"
LIBRARY = {
    "heapq": "heappush heappop heapify heapreplace heappushpop",
    "math": "gcd lcm isqrt comb perm factorial",
    "itertools": "product combinations permutations chain accumulate pairwise islice zip_longest",
    "collections": "defaultdict",
}
BUILTINS = """
    len range enumerate zip min max sum abs sorted reversed int str bool bytes list tuple dict set frozenset isinstance
    ord repr any all divmod pow getattr hasattr setattr iter next map super property staticmethod classmethod
    Exception ValueError TypeError KeyError IndexError LookupError ZeroDivisionError ArithmeticError OverflowError
    RuntimeError NotImplementedError AttributeError StopIteration NotImplemented
""".split()
METHODS = """
    init eq repr str len enter exit call iter lt le gt ge ne add sub mul floordiv mod pow and or xor lshift rshift
    radd rsub rmul rfloordiv rmod rand ror rxor rlshift rrshift iadd isub imul ifloordiv imod ipow iand ior ixor
    ilshift irshift neg pos invert abs bool contains getitem setitem
""".split()
BARRED_STATEMENTS = (ast.Global, ast.AsyncFunctionDef, ast.AsyncFor, ast.AsyncWith, ast.Await, ast.Import)
BARRED_NAMES = re.compile(
    r"\A(_(wall|pe_|dcw_|enum_|cm_|twin_re_|lay_|law_|stub_|sre).*"
    r"|_(cold|tuplegetter|outside|record|written_out|member_names)[0-9_]*"
    r"|register|mro|elements|open|input|law|version_info|with_traceback|add_note"
    r"|attrgetter|breakpoint|builtins|compile|copyright|credits|delattr|dir|eval|exec|exit|gc|globals|help|id|importlib"
    r"|license|locals|methodcaller|os|quit|type|vars|sys)\Z")
BARRED_WORDS = re.compile(
    r"\b(typing|typing_extensions|enum|Enum|IntEnum|StrEnum|Flag|IntFlag|Generic|Protocol|ABC|ABCMeta|namedtuple"
    r"|NamedTuple|TypedDict|TYPE_CHECKING|abstractmethod|_wall|_WallAttr|metaclass)\b|dataclass|overload"
    r"|contextmanager|Meta\b|\(type\)")


def paths():
    return sorted(PACKAGE.rglob("*.py"))


def nodes(kind):
    """Return a list of tuples (place, node) of all nodes of a kind in the package."""
    found = []
    for path in paths():
        for node in ast.walk(ast.parse(path.read_text())):
            if isinstance(node, kind):
                found.append((f"{path.name}:{getattr(node, 'lineno', 0)}", node))
    return found


class FilesTest(unittest.TestCase):
    def test_files(self):
        kept = [path for path in PACKAGE.rglob("*") if "__pycache__" not in path.parts]
        self.assertTrue((PACKAGE / "__init__.py").is_file())
        for path in kept:
            with self.subTest(path=path):
                self.assertTrue(path.is_dir() or path.suffix == ".py")
                self.assertRegex(path.stem, r"\A([a-z][a-z0-9_]*|__init__|__main__)\Z")

    def test_characters_and_sizes(self):
        for path in paths():
            lines = path.read_text().split("\n")
            self.assertLessEqual(len(lines), 399, path)
            for number, line in enumerate(lines, 1):
                with self.subTest(path=path, line=number):
                    self.assertRegex(line, r"\A[ -~]{0,120}\Z")
                    self.assertNotRegex(line, BARRED_WORDS)

    def test_functions_are_short(self):
        for place, node in nodes(ast.FunctionDef):
            self.assertLessEqual(node.end_lineno - node.lineno + 1, 40, place)


class CodeTest(unittest.TestCase):
    def test_imports(self):
        for place, node in nodes(ast.ImportFrom):
            for name in node.names:
                with self.subTest(place=place):
                    self.assertIsNone(name.asname)
                    self.assertEqual(node.level, 0)
                    if node.module not in LIBRARY:
                        self.assertTrue((PACKAGE.parent / (node.module.replace(".", "/") + ".py")).is_file())
                    else:
                        self.assertIn(name.name, LIBRARY[node.module].split())

    def test_imported_names_are_defined_in_the_file(self):
        for place, node in nodes(ast.ImportFrom):
            if node.module not in LIBRARY:
                tree = ast.parse((PACKAGE.parent / (node.module.replace(".", "/") + ".py")).read_text())
                own = [part.name for part in tree.body if isinstance(part, (ast.FunctionDef, ast.ClassDef))]
                own += [part.targets[0].id for part in tree.body if isinstance(part, ast.Assign)]
                for name in node.names:
                    self.assertIn(name.name, own, place)

    def test_no_barred_statements(self):
        self.assertEqual(nodes(BARRED_STATEMENTS), [])

    def test_python_gives_no_warning(self):
        with warnings.catch_warnings():
            warnings.simplefilter("error")
            for path in paths():
                compile(path.read_text(), path.name, "exec")

    def test_no_floats_and_no_true_division(self):
        self.assertEqual(nodes(ast.Div), [])
        self.assertEqual([place for place, node in nodes(ast.Constant) if isinstance(node.value, (float, complex))], [])

    def test_no_percent_sign_in_strings(self):
        texts = [(place, node.value) for place, node in nodes(ast.Constant) if isinstance(node.value, str)]
        self.assertEqual([place for place, text in texts if "%" in text], [])

    def test_builtins(self):
        for place, node in nodes(ast.Name):
            with self.subTest(place=place):
                self.assertTrue(not hasattr(builtins, node.id) or node.id in BUILTINS, node.id)

    def test_no_name_of_a_builtin_is_given_another_meaning(self):
        for place, node in nodes((ast.Name, ast.arg, ast.FunctionDef, ast.ClassDef)):
            stored = not isinstance(node, ast.Name) or isinstance(node.ctx, ast.Store)
            name = getattr(node, "id", None) or getattr(node, "arg", None) or getattr(node, "name", None)
            if stored and not (isinstance(node, ast.FunctionDef) and name.startswith("__")):
                self.assertFalse(hasattr(builtins, name), (place, name))

    def test_no_barred_names(self):
        for place, node in nodes((ast.Name, ast.arg, ast.FunctionDef, ast.ClassDef, ast.Attribute, ast.keyword)):
            for name in [getattr(node, field, None) for field in ("id", "arg", "name", "attr")]:
                if name is not None:
                    self.assertNotRegex(name, BARRED_NAMES, place)
        self.assertEqual([place for place, node in nodes(ast.ClassDef) if not node.name[0].isalpha()], [])

    def test_names_of_properties_and_generators(self):
        functions = [node for _, node in nodes(ast.FunctionDef)]
        properties = {node.name for node in functions if any(ast.unparse(at) == "property" for at in node.decorator_list)}
        others = [node.name for node in functions if not node.decorator_list]
        self.assertEqual([name for name in others if name in properties], [])
        attributes = {node.attr for _, node in nodes(ast.Attribute) if isinstance(node.ctx, ast.Store)}
        self.assertEqual(attributes & properties, set())
        names = [node.name for node in functions]
        for node in functions:
            if any(isinstance(part, (ast.Yield, ast.YieldFrom)) for part in ast.walk(node)):
                self.assertEqual(names.count(node.name), 1, node.name)

    def test_no_local_name_is_that_of_an_import_or_a_class(self):
        for path in paths():
            tree = ast.parse(path.read_text())
            bound = {name.name for part in tree.body if isinstance(part, ast.ImportFrom) for name in part.names}
            bound |= {part.name for part in tree.body if isinstance(part, ast.ClassDef)}
            for node in ast.walk(tree):
                name = node.arg if isinstance(node, ast.arg) else getattr(node, "id", None)
                if isinstance(node, ast.arg) or isinstance(getattr(node, "ctx", None), ast.Store):
                    self.assertNotIn(name, bound, (path.name, node.lineno))

    def test_no_sorting_in_place_and_no_sets_of_many_kinds(self):
        for place, node in nodes(ast.Call):
            if isinstance(node.func, ast.Attribute):
                self.assertNotEqual(node.func.attr, "sort", place)
            if isinstance(node.func, ast.Name) and node.func.id == "sorted":
                self.assertNotIsInstance(node.args[0], ast.GeneratorExp, place)
        self.assertEqual([place for place, node in nodes(ast.GeneratorExp)], [])

    def test_exponents_are_literals(self):
        for place, node in nodes(ast.BinOp):
            if isinstance(node.op, ast.Pow):
                self.assertIsInstance(node.right, ast.Constant, place)

    def test_double_underscore_methods_and_decorators(self):
        for place, node in nodes(ast.FunctionDef):
            with self.subTest(place=place):
                if node.name.startswith("__"):
                    self.assertIn(node.name[2:-2], METHODS)
                for decorator in node.decorator_list:
                    self.assertRegex(ast.unparse(decorator), r"\A(property|staticmethod|classmethod|\w+\.setter)\Z")
        self.assertEqual([place for place, node in nodes(ast.ClassDef) if node.decorator_list], [])


if __name__ == "__main__":
    unittest.main()
