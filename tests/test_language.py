"""The rules of the language that a program can check by itself.

It is stricter than the rules where that is simpler; a rule that it does not name is left to the reader.
"""

import ast
import builtins
import pathlib
import re
import unittest

PACKAGE = pathlib.Path(__file__).resolve().parent.parent / "ringclause"
BUILTINS = set(
    "len range enumerate zip min max sum abs sorted reversed int str bool list tuple dict set isinstance ord repr any "
    "all divmod super ValueError TypeError KeyError NotImplemented property classmethod staticmethod True False None "
    "iter next".split())
METHODS = set(
    "append clear copy count endswith extend find get index insert isalnum isalpha isdigit islower isspace isupper "
    "items join keys ljust lower lstrip partition pop remove replace reverse rfind rjust rpartition rsplit rstrip "
    "setdefault split splitlines startswith strip update upper values zfill bit_length add discard".split())
DUNDERS = set(
    "__init__ __eq__ __repr__ __str__ __len__ __call__ __iter__ __and__ __sub__ __contains__ __name__".split())
DECORATORS = ("property", "setter", "classmethod", "staticmethod")
BARRED = set(
    "register mro elements open input law version_info with_traceback add_note breakpoint builtins compile copyright "
    "credits delattr dir eval exec exit gc globals help id importlib license locals methodcaller attrgetter os quit "
    "vars sys".split())
BARRED_WORDS = re.compile(
    r"\b(type|typing|typing_extensions|enum|Enum|IntEnum|StrEnum|Flag|IntFlag|Generic|Protocol|ABC|ABCMeta|namedtuple|"
    r"NamedTuple|TypedDict|TYPE_CHECKING|abstractmethod)\b|dataclass|overload|contextmanager|_wall|_WallAttr")
STATEMENTS = (
    ast.Assign, ast.AugAssign, ast.If, ast.While, ast.For, ast.Return, ast.Break, ast.Continue, ast.Pass, ast.Raise,
    ast.Assert, ast.Delete, ast.Nonlocal, ast.Try, ast.Expr, ast.FunctionDef, ast.ClassDef, ast.ImportFrom)


class Source:
    """One file of the package."""

    def __init__(self, path):
        self.path = path
        self.text = path.read_text(encoding="utf-8")
        self.tree = ast.parse(self.text)
        self.nodes = list(ast.walk(self.tree))
        self.parents = {child: node for node in self.nodes for child in ast.iter_child_nodes(node)}
        self.module = "ringclause." + path.stem if path.stem != "__init__" else "ringclause"

    def of(self, *kinds):
        return [node for node in self.nodes if isinstance(node, kinds)]

    def docstrings(self):
        found = []
        for node in self.of(ast.Module, ast.ClassDef, ast.FunctionDef):
            first = node.body[0] if node.body else None
            if isinstance(first, ast.Expr) and isinstance(first.value, ast.Constant):
                found.append(first.value)
        return found

    def defined(self):
        names = []
        for node in self.tree.body:
            if isinstance(node, (ast.FunctionDef, ast.ClassDef)):
                names.append(node.name)
            elif isinstance(node, ast.Assign):
                names.extend(target.id for target in node.targets)
        return names

    def imported(self):
        return [alias.name for node in self.of(ast.ImportFrom) for alias in node.names]

    def local_names(self):
        names = [node.arg for node in self.of(ast.arg)]
        names += [node.id for node in self.of(ast.Name)
                  if isinstance(node.ctx, ast.Store) and self.parents[node] not in self.tree.body]
        return names


SOURCES = [Source(path) for path in sorted(PACKAGE.glob("*.py"))]
OWN = {name for source in SOURCES for name in source.defined()}
GENERATORS = {node.name for source in SOURCES for node in source.of(ast.FunctionDef)
              if any(isinstance(inner, (ast.Yield, ast.YieldFrom)) for inner in ast.walk(node))}


class LanguageTest(unittest.TestCase):
    place = ""

    def each(self, *kinds):
        for source in SOURCES:
            for node in source.of(*kinds):
                self.place = f"{source.path.name}, line {node.lineno}"
                yield source, node

    def _formatMessage(self, msg, standard):
        return f"{self.place}: {super()._formatMessage(msg, standard)}"

    def test_files(self):
        names = [path.name for path in PACKAGE.iterdir() if path.name != "__pycache__"]
        for name in names:
            self.assertRegex(name, r"^[a-z_][a-z0-9_]*\.py$")
        self.assertIn("__init__.py", names)
        for source in SOURCES:
            lines = source.text.split("\n")
            self.assertLessEqual(len(lines), 399)
            self.assertTrue(all(len(line) <= 120 for line in lines), source.path.name)
            self.assertTrue(all(" " <= sign <= "~" or sign == "\n" for sign in source.text), source.path.name)

    def test_imports(self):
        table = {source.module: source for source in SOURCES}
        for source, node in self.each(ast.Import, ast.ImportFrom):
            self.assertIsInstance(node, ast.ImportFrom)
            self.assertIn(node, source.tree.body)
            self.assertEqual(node.level, 0)
            self.assertIn(node.module, table)
            for alias in node.names:
                self.assertIsNone(alias.asname)
                self.assertIn(alias.name, table[node.module].defined())

    def test_no_circles_of_imports(self):
        needs = {source.module: {node.module for node in source.of(ast.ImportFrom)} for source in SOURCES}
        while needs:
            free = [module for module in needs if not needs[module] & set(needs)]
            self.assertTrue(free, needs)
            for module in free:
                del needs[module]

    def test_module_level(self):
        for source in SOURCES:
            for node in source.tree.body:
                if isinstance(node, ast.Assign):
                    self.assertEqual([len(node.targets), isinstance(node.targets[0], ast.Name)], [1, True])
                    ast.literal_eval(node.value)
                elif isinstance(node, ast.Expr):
                    self.assertIsInstance(node.value.value, str)
                else:
                    self.assertIsInstance(node, (ast.ImportFrom, ast.FunctionDef, ast.ClassDef))
            names = source.defined() + source.imported()
            self.assertEqual(len(names), len(set(names)), source.path.name)

    def test_statements(self):
        for source, node in self.each(ast.stmt):
            self.assertIsInstance(node, STATEMENTS)
            if isinstance(node, ast.Expr):
                self.assertIsInstance(node.value, (ast.Call, ast.Yield, ast.YieldFrom, ast.Constant))

    def test_sizes_and_decorators(self):
        for source, node in self.each(ast.FunctionDef, ast.ClassDef):
            if isinstance(node, ast.ClassDef):
                self.assertEqual([node.decorator_list, node.keywords], [[], []])
            else:
                self.assertLessEqual(node.end_lineno - node.lineno + 1, 40)
                for decorator in node.decorator_list:
                    self.assertIn(ast.unparse(decorator).split(".")[-1], DECORATORS)

    def test_names(self):
        for source in SOURCES:
            methods = [node.name for node in source.of(ast.FunctionDef)]
            attributes = [node.attr for node in source.of(ast.Attribute)]
            for name in source.defined() + source.local_names() + methods + attributes:
                self.assertRegex(name, r"^_?[A-Za-z][A-Za-z0-9_]*$|^_$|^__[a-z]+__$")
                self.assertNotIn(name, BARRED)
                if name.startswith("__"):
                    self.assertIn(name, DUNDERS)
            for name in source.local_names():
                self.assertNotIn(name, [node.name for node in source.of(ast.ClassDef)] + source.imported())
                self.assertNotIn(name, GENERATORS)
            for name in source.local_names() + source.defined():
                self.assertFalse(hasattr(builtins, name), name)

    def test_builtins(self):
        for source, node in self.each(ast.Name):
            if isinstance(node.ctx, ast.Load) and hasattr(builtins, node.id) and node.id not in ("__name__",):
                self.assertIn(node.id, BUILTINS)

    def test_underscore_is_never_read(self):
        for source, node in self.each(ast.Name):
            self.assertFalse(node.id == "_" and isinstance(node.ctx, ast.Load))

    def test_barred_words(self):
        for source in SOURCES:
            text = source.text
            for docstring in source.docstrings():
                text = text.replace(docstring.value, "")
            text = re.sub(r"#.*", "", text)
            self.assertIsNone(BARRED_WORDS.search(text), source.path.name)

    def test_expressions(self):
        for source, node in self.each(ast.expr):
            self.assertNotIsInstance(node, (ast.Await, ast.NamedExpr, ast.GeneratorExp))
            if isinstance(node, ast.BinOp):
                self.assertNotIsInstance(node.op, (ast.Div, ast.MatMult))
            if isinstance(node, ast.Constant):
                self.assertIsInstance(node.value, (int, str, bytes, bool, type(None)))
                if isinstance(node.value, str):
                    self.assertNotIn("%", node.value)
                    self.assertNotRegex(node.value, r"^__.*__$")
            if isinstance(node, ast.Compare):
                for op, right in zip(node.ops, node.comparators):
                    if isinstance(op, (ast.Is, ast.IsNot)):
                        self.assertIn(ast.unparse(right), ("None", "True", "False"))

    def test_sets_stand_only_where_they_may(self):
        for source, node in self.each(ast.Set, ast.SetComp, ast.Call):
            if isinstance(node, ast.Call) and ast.unparse(node.func) != "set":
                continue
            parent = source.parents[node]
            if isinstance(parent, ast.Call):
                self.assertIn(ast.unparse(parent.func), ("sorted", "len"))
                self.assertEqual(parent.keywords, [])
            else:
                self.assertIsInstance(parent, ast.Compare)

    def test_lazy_values_are_iterated_at_once(self):
        for source, node in self.each(ast.Call):
            name = ast.unparse(node.func)
            parent = source.parents[node]
            looped = isinstance(parent, (ast.For, ast.comprehension)) and parent.iter is node
            if name in ("zip", "enumerate", "reversed"):
                self.assertTrue(looped)
            if name in GENERATORS:
                self.assertTrue(looped or isinstance(parent, ast.YieldFrom))

    def test_generators_are_only_called(self):
        for source, node in self.each(ast.Name):
            if node.id in GENERATORS:
                self.assertIsInstance(source.parents[node], ast.Call)
                self.assertIs(source.parents[node].func, node)

    def test_stars(self):
        for source, node in self.each(ast.Starred):
            parent = source.parents[node]
            if isinstance(parent, ast.Call):
                self.assertIsInstance(node.value, (ast.Name, ast.Attribute))
            else:
                self.assertIsInstance(parent, (ast.List, ast.Tuple))

    def test_methods(self):
        own = {node.name for source in SOURCES for node in source.of(ast.FunctionDef)}
        for source, node in self.each(ast.Call):
            if isinstance(node.func, ast.Attribute):
                self.assertIn(node.func.attr, METHODS | own)

    def test_no_name_is_a_method_and_an_attribute(self):
        methods, attributes = set(), set()
        for source, node in self.each(ast.FunctionDef, ast.Attribute):
            if isinstance(node, ast.FunctionDef) and isinstance(source.parents[node], ast.ClassDef):
                methods.add(node.name)
            elif isinstance(node, ast.Attribute) and isinstance(node.ctx, ast.Store):
                attributes.add(node.attr)
        self.assertEqual(methods & attributes, set())

    def test_targets(self):
        for source, node in self.each(ast.Tuple):
            if isinstance(node.ctx, ast.Store):
                names = [item.id for item in node.elts if isinstance(item, ast.Name)]
                self.assertEqual(len(set(names)), len(names))

    def test_every_import_is_used(self):
        for source in SOURCES:
            used = {node.id for node in source.of(ast.Name)}
            self.assertLessEqual(set(source.imported()), used, source.path.name)

    def test_raise_and_except(self):
        for source, node in self.each(ast.Raise, ast.ExceptHandler):
            if isinstance(node, ast.Raise):
                self.assertIsInstance(node.exc, ast.Call)
                self.assertIn(node.exc.func.id, source.imported() + ["TypeError"])
            else:
                self.assertIn(ast.unparse(node.type), source.imported() + ["KeyError"])

    def test_attributes_are_assigned_off_names(self):
        for source, node in self.each(ast.Attribute):
            if isinstance(node.ctx, ast.Store):
                self.assertIsInstance(node.value, ast.Name)


if __name__ == "__main__":
    unittest.main()
