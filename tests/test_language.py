"""Tests that the files of the package keep to the rules of ../shared/LANGUAGE.md that a test can see.

Some tests here are narrower than the rules: what the package does not need is not let in.
"""

import ast
import builtins
import pathlib
import re
import symtable
import unittest

FOLDER = pathlib.Path(__file__).resolve().parent.parent / "bookstogether"
FILES = sorted(FOLDER.rglob("*.py"))
TREES = {path: ast.parse(path.read_text()) for path in FILES}

STATEMENTS = (
    ast.Assign, ast.AugAssign, ast.AnnAssign, ast.If, ast.While, ast.For, ast.Return, ast.Break, ast.Continue,
    ast.Pass, ast.Raise, ast.Assert, ast.Delete, ast.Nonlocal, ast.Try, ast.Expr, ast.FunctionDef, ast.ClassDef,
    ast.ImportFrom,
)
BUILTINS = set(
    "len range enumerate zip min max sum abs sorted reversed int str bool list tuple dict set isinstance ord repr"
    " any all divmod iter ValueError NotImplemented True False None property staticmethod classmethod super".split()
)
METHODS = set(
    "init eq repr str len call iter lt le gt ge ne add sub mul floordiv mod and or xor neg pos invert abs bool"
    " contains getitem setitem".split()
)
NOWHERE = set(
    "register mro elements open input law version_info with_traceback add_note format format_map _wall"
    " args encode decode".split()
)
# Names that a variable may have, but no method and no attribute.
NO_ATTRIBUTES = NOWHERE | set("keys items values pop update append clear extend insert remove reverse sort".split())
WORDS = re.compile(
    r"\b(type|typing|typing_extensions|enum|Enum|IntEnum|StrEnum|Flag|IntFlag|Generic|Protocol|ABC|ABCMeta|"
    r"namedtuple|NamedTuple|TypedDict|TYPE_CHECKING|abstractmethod|Meta)\b|dataclass|overload|contextmanager"
)
CATCHABLE = {"KeyError"}


def walk(*kinds):
    """All nodes of these kinds, each with its file."""
    for path, tree in TREES.items():
        for node in ast.walk(tree):
            if isinstance(node, kinds):
                yield path, node


def parents(tree):
    return {child: node for node in ast.walk(tree) for child in ast.iter_child_nodes(node)}


def starred_indexes(tree):
    """The nodes with an index or a slice that has a star anywhere between its brackets."""
    return [
        node for node in ast.walk(tree)
        if isinstance(node, ast.Subscript) and any(isinstance(item, ast.Starred) for item in ast.walk(node.slice))
    ]


def own_module(path):
    parts = path.relative_to(FOLDER.parent).with_suffix("").parts
    return ".".join(part for part in parts if part != "__init__")


class TestLanguage(unittest.TestCase):
    def place(self, path, node):
        return f"{path.name}:{getattr(node, 'lineno', 0)}"

    def test_files(self):
        self.assertLessEqual(len(FILES), 100)
        for path in FOLDER.iterdir():
            if path.name != "__pycache__":
                self.assertRegex(path.name, r"^[a-z0-9_]+\.py$")

    def test_sizes_and_signs(self):
        for path in FILES:
            text = path.read_text()
            self.assertRegex(text, r"^[ -~\n]*$", path.name)
            self.assertLessEqual(len(text.splitlines()), 399, path.name)
            for at, line in enumerate(text.splitlines(), start=1):
                self.assertLessEqual(len(line), 120, f"{path.name}:{at}")
        for path, node in walk(ast.FunctionDef):
            self.assertLessEqual(node.end_lineno - node.lineno + 1, 40, self.place(path, node))

    def test_words(self):
        for path in FILES:
            self.assertIsNone(WORDS.search(path.read_text()), path.name)

    def test_module_level(self):
        for path, tree in TREES.items():
            imports_over = False
            for at, node in enumerate(tree.body):
                where = self.place(path, node)
                if at == 0:
                    self.assertTrue(isinstance(node, ast.Expr) and isinstance(node.value.value, str), where)
                    continue
                if isinstance(node, ast.ImportFrom):
                    self.assertFalse(imports_over, where)
                    continue
                imports_over = True
                self.assertIsInstance(node, (ast.FunctionDef, ast.ClassDef, ast.Assign), where)
                if isinstance(node, ast.Assign):
                    self.assertEqual(len(node.targets), 1, where)
                    self.assertIsInstance(node.targets[0], ast.Name, where)
                    above = {item.name for item in tree.body[:at] if isinstance(item, ast.FunctionDef)}
                    table = node.value.values if isinstance(node.value, ast.Dict) else [node.value]
                    if all(isinstance(item, ast.Name) for item in table):
                        self.assertLessEqual({item.id for item in table}, above, where)
                        for item in node.value.keys:
                            ast.literal_eval(item)
                    else:
                        ast.literal_eval(node.value)

    def test_imports(self):
        graph = {own_module(path): set() for path in FILES}
        bound = {}
        for path, tree in TREES.items():
            names = []
            for node in tree.body:
                if isinstance(node, (ast.FunctionDef, ast.ClassDef)):
                    names.append(node.name)
                elif isinstance(node, ast.Assign):
                    names.append(node.targets[0].id)
            self.assertEqual(len(set(names)), len(names), path.name)
            bound[own_module(path)] = names
        for path, node in walk(ast.ImportFrom, ast.Import):
            where = self.place(path, node)
            self.assertIsInstance(node, ast.ImportFrom, where)
            self.assertIn(node.module, graph, where)
            for alias in node.names:
                self.assertIsNone(alias.asname, where)
                self.assertIn(alias.name, bound[node.module], where)
                self.assertNotIn(alias.name, bound[own_module(path)], where)
            graph[own_module(path)].add(node.module)
        while graph:
            free = [name for name, needs in graph.items() if not needs & set(graph)]
            self.assertNotEqual(free, [], f"imports in a ring: {graph}")
            for name in free:
                del graph[name]

    def test_every_import_and_private_function_is_used(self):
        for path, tree in TREES.items():
            used = {node.id for node in ast.walk(tree) if isinstance(node, ast.Name)}
            used |= {node.attr for node in ast.walk(tree) if isinstance(node, ast.Attribute)}
            for node in ast.walk(tree):
                if isinstance(node, ast.ImportFrom):
                    for alias in node.names:
                        self.assertIn(alias.name, used, self.place(path, node))
                elif isinstance(node, ast.FunctionDef) and re.match("_[a-z]", node.name):
                    self.assertIn(node.name, used, self.place(path, node))

    def test_statements_and_expressions(self):
        for path, node in walk(ast.stmt):
            self.assertIsInstance(node, STATEMENTS, self.place(path, node))
        barred = (ast.GeneratorExp, ast.Lambda, ast.Div, ast.MatMult, ast.Await, ast.NamedExpr, ast.SetComp)
        for path, node in walk(*barred):
            self.fail(f"{self.place(path, node)}: {type(node).__name__}")
        for path, node in walk(ast.Constant):
            self.assertNotIsInstance(node.value, (float, complex, bytes), self.place(path, node))
            if isinstance(node.value, str):
                self.assertNotIn("%", node.value, self.place(path, node))
        for path, node in walk(ast.Expr):
            docstring = isinstance(node.value, ast.Constant) and isinstance(node.value.value, str)
            allowed = docstring or isinstance(node.value, (ast.Call, ast.Yield))
            self.assertTrue(allowed, self.place(path, node))

    def test_decorators_and_double_underscores(self):
        for path, node in walk(ast.FunctionDef, ast.ClassDef):
            where = self.place(path, node)
            decorators = [item.id for item in node.decorator_list]
            self.assertLessEqual(set(decorators), {"property", "staticmethod", "classmethod"}, where)
            if node.name.startswith("__"):
                self.assertIn(node.name.strip("_"), METHODS, where)
        for path, node in walk(ast.Attribute):
            if node.attr == "__init__":
                self.assertEqual(ast.unparse(node.value), "super()", self.place(path, node))
            else:
                self.assertFalse(node.attr.startswith("__"), self.place(path, node))

    def test_names(self):
        taken = set(dir(builtins))
        for path, tree in TREES.items():
            for node in ast.walk(tree):
                where = self.place(path, node)
                if isinstance(node, ast.Name) and isinstance(node.ctx, (ast.Store, ast.Del)):
                    self.assertNotIn(node.id, taken | NOWHERE, where)
                elif isinstance(node, (ast.FunctionDef, ast.ClassDef)):
                    self.assertNotIn(node.name, NOWHERE | {"keys"}, where)
                    self.assertNotIn(node.name, BUILTINS, where)
                elif isinstance(node, ast.arg):
                    self.assertNotIn(node.arg, taken | NOWHERE, where)
                elif isinstance(node, ast.Attribute) and isinstance(node.ctx, ast.Store):
                    self.assertNotIn(node.attr, NO_ATTRIBUTES, where)

    def test_builtins(self):
        for path, tree in TREES.items():
            for node in ast.walk(tree):
                if isinstance(node, ast.Name) and node.id in dir(builtins):
                    self.assertIn(node.id, BUILTINS, self.place(path, node))

    def test_locals_have_no_name_of_a_class_an_import_or_a_function_of_their_file(self):
        for path, tree in TREES.items():
            taken = {alias.name for node in tree.body if isinstance(node, ast.ImportFrom) for alias in node.names}
            taken |= {node.name for node in tree.body if isinstance(node, (ast.ClassDef, ast.FunctionDef))}
            tables = [symtable.symtable(path.read_text(), str(path), "exec")]
            while tables:
                table = tables.pop()
                tables.extend(table.get_children())
                if table.get_type() == "function":
                    names = {symbol.get_name() for symbol in table.get_symbols() if symbol.is_local()}
                    self.assertEqual(names & taken, set(), f"{path.name}: {table.get_name()}")

    def test_sets(self):
        for path, tree in TREES.items():
            above = parents(tree)
            for node in ast.walk(tree):
                self.assertNotIsInstance(node, ast.Set, self.place(path, node))
                if not (isinstance(node, ast.Name) and node.id == "set"):
                    continue
                call = above[node]
                self.assertIsInstance(call, ast.Call, self.place(path, node))
                user = above[call]
                kept = isinstance(user, ast.Assign) and isinstance(user.targets[0], ast.Name)
                measured = isinstance(user, ast.Call) and user.func.id in ("len", "sorted")
                self.assertTrue(kept or measured, self.place(path, node))

    def test_iterators_are_not_kept(self):
        for path, tree in TREES.items():
            above = parents(tree)
            for node in ast.walk(tree):
                if not (isinstance(node, ast.Call) and isinstance(node.func, ast.Name)):
                    continue
                if node.func.id not in ("zip", "enumerate", "reversed", "range", "all_rows"):
                    continue
                user = above[node]
                looped = isinstance(user, (ast.For, ast.comprehension)) and user.iter is node
                called = isinstance(user, ast.Call) and getattr(user.func, "id", "") in ("list", "tuple")
                asked = isinstance(user, ast.Compare) and node.func.id == "range"
                self.assertTrue(looped or called or asked, self.place(path, node))

    def test_handlers_name_own_errors(self):
        own = {node.name for node in TREES[FOLDER / "errors.py"].body if isinstance(node, ast.ClassDef)}
        for path, node in walk(ast.ExceptHandler):
            self.assertIsInstance(node.type, ast.Name, self.place(path, node))
            self.assertIn(node.type.id, own | CATCHABLE, self.place(path, node))
        for path, node in walk(ast.Raise):
            self.assertIsInstance(node.exc, ast.Call, self.place(path, node))
            self.assertIn(node.exc.func.id, own, self.place(path, node))

    def test_identity(self):
        for path, node in walk(ast.Compare):
            for operator, right in zip(node.ops, node.comparators):
                if isinstance(operator, (ast.Is, ast.IsNot)):
                    self.assertIsInstance(right, ast.Constant, self.place(path, node))

    def test_a_name_is_not_both_a_method_and_an_attribute_of_a_class(self):
        for path, node in walk(ast.ClassDef):
            methods = {item.name for item in node.body if isinstance(item, ast.FunctionDef)}
            stored = {
                item.attr for item in ast.walk(node)
                if isinstance(item, ast.Attribute) and isinstance(item.ctx, ast.Store)
            }
            self.assertEqual(methods & stored, set(), self.place(path, node))

    def test_no_attribute_has_the_name_of_a_property(self):
        functions = [node for _, node in walk(ast.FunctionDef)]
        properties = {node.name for node in functions if "property" in map(ast.unparse, node.decorator_list)}
        self.assertIn("as_rule", properties)
        for path, node in walk(ast.Attribute):
            if isinstance(node.ctx, ast.Store):
                self.assertNotIn(node.attr, properties, self.place(path, node))

    def test_generators_are_iterated_at_once(self):
        functions = [node for _, node in walk(ast.FunctionDef)]
        generators = {node.name for node in functions if any(isinstance(item, ast.Yield) for item in ast.walk(node))}
        for path, tree in TREES.items():
            above = parents(tree)
            for node in ast.walk(tree):
                if isinstance(node, ast.Name) and node.id in generators:
                    call = above[node]
                    self.assertIsInstance(call, ast.Call, self.place(path, node))
                    user = above[call]
                    looped = isinstance(user, (ast.For, ast.comprehension)) and user.iter is call
                    self.assertTrue(looped or ast.unparse(user).startswith("list("), self.place(path, node))
        for name in generators:
            self.assertEqual([node.name for node in functions].count(name), 1, name)

    def test_kept_sets_are_only_asked(self):
        for path, tree in TREES.items():
            for function in ast.walk(tree):
                if not isinstance(function, ast.FunctionDef):
                    continue
                assigned = [node for node in ast.walk(function) if isinstance(node, ast.Assign)]
                kept = {ast.unparse(node.targets[0]) for node in assigned if ast.unparse(node.value).startswith("set(")}
                for node in ast.walk(function):
                    if isinstance(node, ast.Attribute):
                        self.assertNotIn(ast.unparse(node.value), kept, self.place(path, node))

    def test_what_stands_behind_a_star_in_a_call(self):
        for path, node in walk(ast.Call):
            for part in [part.value for part in node.args if isinstance(part, ast.Starred)]:
                self.assertIsInstance(part, (ast.Name, ast.Attribute), self.place(path, node))
            for part in [part.value for part in node.keywords if part.arg is None]:
                self.assertIsInstance(part, ast.Name, self.place(path, node))

    def test_no_star_stands_in_an_index(self):
        for path, tree in TREES.items():
            self.assertEqual([self.place(path, node) for node in starred_indexes(tree)], [])

    def test_a_star_in_an_index_is_found(self):
        for line in ("a[(*b, 1)]", "a[*b, 1]", "a[(*b, 1)] = 0", "a[0][(1, (*b,))].c", "a[[*b][0]]", "a[:len([*b])]"):
            self.assertNotEqual(starred_indexes(ast.parse(line)), [], line)
        for line in ("key = (*b, 1)", "a[key]", "(*a, 1)[0]", "f(*a)[0]", "[*a[0], a[1:]]", "b, *c = a[0]"):
            self.assertEqual(starred_indexes(ast.parse(line)), [], line)

    def test_nothing_in_an_init_returns(self):
        for path, node in walk(ast.FunctionDef):
            if node.name == "__init__":
                self.assertFalse(any(isinstance(item, ast.Return) for item in ast.walk(node)), self.place(path, node))

    def test_default_values_are_plain(self):
        for path, node in walk(ast.FunctionDef):
            for value in node.args.defaults + [value for value in node.args.kw_defaults if value is not None]:
                if not isinstance(value, ast.Name):
                    ast.literal_eval(value)
