"""The rules of the language subset that a program can check well, for every file of the package."""

import ast
import builtins
import os
import re
import unittest

PACKAGE = os.path.join(os.path.dirname(os.path.dirname(os.path.abspath(__file__))), "roompace")

LIBRARY = {
    "heapq": {"heappush", "heappop", "heapify", "heapreplace", "heappushpop"},
    "math": {"gcd", "lcm", "isqrt", "comb", "perm", "factorial"},
    "itertools": {"product", "combinations", "permutations", "chain", "accumulate", "pairwise", "islice", "zip_longest"},
    "collections": {"defaultdict", "deque"},
    "__future__": {"annotations"},
}

BUILTINS = set("""
    len range enumerate zip min max sum abs sorted reversed int str bool bytes list tuple dict set frozenset isinstance
    ord repr any all divmod pow getattr hasattr setattr Exception ValueError TypeError KeyError IndexError LookupError
    ZeroDivisionError ArithmeticError OverflowError RuntimeError NotImplementedError AttributeError StopIteration
    NotImplemented iter next map super type property staticmethod classmethod
""".split())

BARRED_WORDS = re.compile(
    r"\b(typing|typing_extensions|enum|Enum|IntEnum|StrEnum|Flag|IntFlag|Generic|Protocol|ABC|ABCMeta|namedtuple"
    r"|NamedTuple|TypedDict|TYPE_CHECKING|abstractmethod)\b|dataclass|overload|contextmanager|_wall|_WallAttr"
)

BARRED_NAMES = set("""
    register mro elements open input law version_info with_traceback add_note attrgetter breakpoint builtins compile
    copyright credits delattr dir eval exec exit gc getattr globals hasattr help id importlib license locals methodcaller
    os quit setattr super type vars sys
""".split())

# The properties that the interface gives to classes; no other class stores attributes under these names.
PROPERTIES = {"label", "time", "rate", "around", "way", "factor", "place", "goal", "viewpoint", "now", "moment", "outermost"}


def files():
    found = {}
    for folder, folders, names in os.walk(PACKAGE):
        folders[:] = [name for name in folders if name != "__pycache__"]
        for name in names:
            path = os.path.join(folder, name)
            with open(path, encoding="utf-8", newline="") as file:
                found[os.path.relpath(path, os.path.dirname(PACKAGE))] = file.read()
    return found


FILES = files()
TREES = {path: ast.parse(FILES[path]) for path in FILES}


def functions(tree):
    return [node for node in ast.walk(tree) if isinstance(node, ast.FunctionDef)]


def parameters(function):
    spec = function.args
    named = spec.posonlyargs + spec.args + spec.kwonlyargs + [arg for arg in (spec.vararg, spec.kwarg) if arg]
    return [arg.arg for arg in named]


def stored_names(function):
    return [node.id for node in ast.walk(function) if isinstance(node, ast.Name) and isinstance(node.ctx, ast.Store)]


def module_bindings(tree):
    names = []
    for node in tree.body:
        if isinstance(node, ast.ImportFrom):
            names.extend(alias.asname or alias.name for alias in node.names)
        elif isinstance(node, (ast.FunctionDef, ast.ClassDef)):
            names.append(node.name)
        elif isinstance(node, ast.Assign):
            names.extend(target.id for target in node.targets)
    return names


def docstrings(tree):
    found = set()
    for node in ast.walk(tree):
        if isinstance(node, (ast.Module, ast.ClassDef, ast.FunctionDef)) and ast.get_docstring(node) is not None:
            found.add(id(node.body[0].value))
    return found


class FileTest(unittest.TestCase):
    def test_names_of_files(self):
        self.assertIn(os.path.join("roompace", "__init__.py"), FILES)
        self.assertLessEqual(len(FILES), 100)
        for path in FILES:
            self.assertRegex(path.replace(os.sep, "/"), r"^roompace/([a-z_][a-z0-9_]*/)*[a-z_][a-z0-9_]*\.py$")

    def test_characters(self):
        for path in FILES:
            self.assertEqual([sign for sign in FILES[path] if sign != "\n" and not " " <= sign <= "~"], [], path)

    def test_sizes(self):
        for path in FILES:
            lines = FILES[path].split("\n")
            self.assertLessEqual(len(lines), 399, path)
            self.assertLessEqual(max(len(line) for line in lines), 120, path)
            for function in functions(TREES[path]):
                self.assertLessEqual(function.end_lineno - function.lineno + 1, 40, (path, function.name))

    def test_barred_words(self):
        for path in FILES:
            self.assertIsNone(BARRED_WORDS.search(FILES[path]), path)

    def test_strings(self):
        for path in TREES:
            told = docstrings(TREES[path])
            for node in ast.walk(TREES[path]):
                if isinstance(node, ast.Constant) and isinstance(node.value, str) and id(node) not in told:
                    self.assertNotIn("%", node.value, (path, node.lineno))
                    self.assertNotIn("__", node.value, (path, node.lineno))
                self.assertFalse(isinstance(node, ast.Constant) and isinstance(node.value, (float, complex)))


class ImportTest(unittest.TestCase):
    def imports(self, path):
        return [node for node in ast.walk(TREES[path]) if isinstance(node, (ast.Import, ast.ImportFrom))]

    def test_forms(self):
        for path in TREES:
            first = [node for node in TREES[path].body if not isinstance(node, ast.Expr)]
            for k, node in enumerate(self.imports(path)):
                self.assertIs(first[k], node, path)
                self.assertIsInstance(node, ast.ImportFrom)
                self.assertEqual(node.level, 0)
                names = {alias.name for alias in node.names}
                if node.module in LIBRARY:
                    self.assertLessEqual(names, LIBRARY[node.module])
                else:
                    source = TREES[os.path.join(*node.module.split(".")) + ".py"]
                    defined = [one.name for one in source.body if isinstance(one, (ast.FunctionDef, ast.ClassDef))]
                    plain = [target.id for one in source.body if isinstance(one, ast.Assign) for target in one.targets]
                    self.assertLessEqual(names, set(defined + plain), path)

    def test_no_two_files_import_from_each_other(self):
        edges = {}
        for path in TREES:
            module = path[:-3].replace(os.sep, ".")
            edges[module] = [node.module for node in self.imports(path) if node.module.startswith("roompace")]
        done = set()

        def visit(module, above):
            self.assertNotIn(module, above)
            if module not in done:
                for other in edges[module]:
                    visit(other, above + [module])
                done.add(module)

        for module in edges:
            visit(module, [])

    def test_everything_that_is_imported_is_used(self):
        for path in TREES:
            used = {node.id for node in ast.walk(TREES[path]) if isinstance(node, ast.Name)}
            for node in self.imports(path):
                for alias in node.names:
                    self.assertIn(alias.asname or alias.name, used, path)


class NameTest(unittest.TestCase):
    def test_bound_once_at_module_level(self):
        for path in TREES:
            names = module_bindings(TREES[path])
            self.assertEqual(len(names), len(set(names)), path)

    def test_no_other_meaning_for_builtins_classes_and_imports(self):
        taken = set(dir(builtins)) | BARRED_NAMES
        for path in TREES:
            top = [node for node in TREES[path].body if isinstance(node, (ast.ImportFrom, ast.ClassDef))]
            fixed = set(module_bindings(ast.Module(body=top, type_ignores=[])))
            self.assertFalse(set(module_bindings(TREES[path])) & taken, path)
            for function in functions(TREES[path]):
                local = set(parameters(function) + stored_names(function))
                self.assertFalse(local & (taken | fixed), (path, function.name))

    def test_builtins_that_are_used(self):
        for path in TREES:
            known = set(module_bindings(TREES[path]))
            for function in functions(TREES[path]):
                known |= set(parameters(function) + stored_names(function))
            known |= {node.name for node in ast.walk(TREES[path]) if isinstance(node, ast.ExceptHandler)}
            read = {node.id for node in ast.walk(TREES[path]) if isinstance(node, ast.Name)}
            attributes = {node.id for top in ast.walk(TREES[path]) if isinstance(top, ast.ClassDef)
                          for node in ast.walk(top) if isinstance(node, ast.Name) and isinstance(node.ctx, ast.Store)}
            setters = {node.name for node in functions(TREES[path])}
            self.assertLessEqual(read - known - attributes - setters, BUILTINS, path)

    def test_no_attribute_has_the_name_of_a_property_without_a_setter(self):
        for path in TREES:
            for node in ast.walk(TREES[path]):
                if isinstance(node, ast.Attribute) and not isinstance(node.ctx, ast.Load):
                    self.assertNotIn(node.attr, PROPERTIES - {"viewpoint"}, path)

    def test_no_name_is_a_method_and_an_attribute(self):
        methods, attributes = set(), set()
        for tree in TREES.values():
            for node in ast.walk(tree):
                if isinstance(node, ast.ClassDef):
                    methods |= {one.name for one in node.body if isinstance(one, ast.FunctionDef) and not one.decorator_list}
                if isinstance(node, ast.Attribute) and isinstance(node.ctx, ast.Store):
                    attributes.add(node.attr)
        self.assertFalse(methods & attributes)


class StatementTest(unittest.TestCase):
    def test_what_is_not_used(self):
        barred = (
            ast.Global, ast.AsyncFunctionDef, ast.AsyncFor, ast.AsyncWith, ast.Await, ast.Set, ast.SetComp,
        )
        for path in TREES:
            for node in ast.walk(TREES[path]):
                self.assertNotIsInstance(node, barred, path)
                self.assertFalse(isinstance(node, ast.BinOp) and isinstance(node.op, (ast.Div, ast.MatMult)), path)
                if isinstance(node, ast.Compare):
                    for sign, side in zip(node.ops, node.comparators):
                        if isinstance(sign, (ast.Is, ast.IsNot)):
                            self.assertIsInstance(side, ast.Constant)
                if isinstance(node, ast.ExceptHandler):
                    self.assertIsNotNone(node.type)

    def test_rows_at_the_end_of_a_block(self):
        for path in TREES:
            for function in functions(TREES[path]):
                if function.name == "__exit__":
                    self.assertEqual(parameters(function), ["self", "kind", "value", "trace"], path)
                    for row in function.body:
                        self.assertRegex(ast.unparse(row), r"^([a-z_]+|[a-z_]+\.[a-z_]+) = self(\.[a-z_]+)+$", path)

    def test_generators(self):
        names = [function.name for tree in TREES.values() for function in functions(tree)]
        for path in TREES:
            for function in functions(TREES[path]):
                if not any(isinstance(node, (ast.Yield, ast.YieldFrom)) for node in ast.walk(function)):
                    continue
                self.assertEqual(names.count(function.name), 1, (path, function.name))
                self.assertFalse(any(isinstance(node, (ast.Try, ast.With, ast.Lambda)) for node in ast.walk(function)), path)
                for node in ast.walk(function):
                    self.assertFalse(isinstance(node, ast.Return) and node.value is not None, (path, function.name))
                    self.assertNotIsInstance(node, ast.YieldFrom, path)

    def test_blocks(self):
        for path in TREES:
            for node in ast.walk(TREES[path]):
                if isinstance(node, ast.With):
                    for item in node.items:
                        self.assertIsInstance(item.context_expr, (ast.Call, ast.Name, ast.Attribute), path)
                        self.assertTrue(item.optional_vars is None or isinstance(item.optional_vars, ast.Name), path)

    def test_module_level(self):
        for path in TREES:
            for k, node in enumerate(TREES[path].body):
                plain = (ast.ImportFrom, ast.FunctionDef, ast.ClassDef, ast.Assign)
                self.assertTrue(isinstance(node, plain) or (k == 0 and isinstance(node, ast.Expr)), path)

    def test_decorators(self):
        for path in TREES:
            for node in ast.walk(TREES[path]):
                if isinstance(node, (ast.FunctionDef, ast.ClassDef)):
                    for mark in node.decorator_list:
                        self.assertRegex(ast.unparse(mark), r"^(property|staticmethod|classmethod|[a-z_]+\.setter)$")


if __name__ == "__main__":
    unittest.main()
