"""The rules of the language that the files of the package keep, as far as a program can see them simply."""

import ast
import builtins
import pathlib
import re
import symtable
import unittest
import warnings

TOP = pathlib.Path(__file__).resolve().parent.parent
PACKAGE = TOP / "rungshare"
LIBRARY = {"heapq": "heappush heappop heapify heapreplace heappushpop", "math": "gcd lcm isqrt comb perm factorial",
           "itertools": "product combinations permutations"}
CALLED = set("""len range enumerate zip min max sum abs sorted reversed int str bool bytes list tuple dict set isinstance
ord repr any all divmod iter next map super property staticmethod classmethod print
Exception ValueError TypeError KeyError IndexError LookupError ZeroDivisionError ArithmeticError OverflowError
RuntimeError NotImplementedError AttributeError StopIteration NotImplemented""".split())
ITERATED = {"zip", "enumerate", "reversed", "range"}
NO_NAMES = set("""register mro elements open input law version_info with_traceback add_note attrgetter breakpoint
builtins compile copyright credits delattr dir eval exec exit gc getattr globals hasattr help id importlib license
locals methodcaller os quit setattr type vars sys""".split())
NO_WORDS = set("""type typing typing_extensions enum Enum IntEnum StrEnum Flag IntFlag Generic Protocol ABC ABCMeta
namedtuple NamedTuple TypedDict TYPE_CHECKING abstractmethod""".split())
METHODS = set("""append clear copy count endswith extend find get index insert isalnum isalpha isdigit islower isspace
isupper items join keys ljust lower lstrip partition pop remove replace reverse rfind rjust rpartition rsplit rstrip
setdefault split splitlines startswith strip update upper values zfill bit_length
title capitalize swapcase casefold center expandtabs removeprefix removesuffix rindex isascii isdecimal isnumeric
istitle isidentifier isprintable""".split())
BARRED_METHODS = set(dir("") + dir(b"") + dir([]) + dir({}) + dir(0) + dir({1}) + dir(()))
DOUBLE = {"__init__", "__len__", "__eq__", "__enter__", "__exit__"}
STATEMENTS = (ast.Assign, ast.AugAssign, ast.If, ast.While, ast.For, ast.Return, ast.Break, ast.Continue, ast.Pass,
              ast.Raise, ast.Expr, ast.FunctionDef, ast.ClassDef, ast.ImportFrom, ast.With, ast.Try)


def is_constant(node):
    if isinstance(node, ast.Constant):
        return not isinstance(node.value, (float, complex)) and node.value is not ...
    if isinstance(node, (ast.Tuple, ast.List)):
        return all([is_constant(part) for part in node.elts])
    return isinstance(node, ast.UnaryOp) and is_constant(node.operand)


def is_table(node):
    """Whether it is a dict of plain values, or of functions by their names."""
    if not isinstance(node, ast.Dict):
        return False
    return all([is_constant(key) for key in node.keys]) and all([is_constant(value) or isinstance(value, ast.Name)
                                                                 for value in node.values])


def own_methods(trees):
    return [part.name for tree in trees for node in tree.body if isinstance(node, ast.ClassDef)
            for part in node.body if isinstance(part, ast.FunctionDef)]


def names_of(module):
    """What a file binds at its top level."""
    found = []
    for node in module.body:
        if isinstance(node, (ast.FunctionDef, ast.ClassDef)):
            found.append(node.name)
        elif isinstance(node, ast.Assign):
            found += [target.id for target in node.targets]
        elif isinstance(node, ast.ImportFrom):
            found += [name.name for name in node.names]
    return found


class Language(unittest.TestCase):

    @classmethod
    def setUpClass(cls):
        cls.paths = sorted([path for path in PACKAGE.rglob("*") if "__pycache__" not in path.parts])
        cls.texts = {path: path.read_bytes() for path in cls.paths}
        cls.trees = {}
        with warnings.catch_warnings():
            warnings.simplefilter("error")
            for path, text in cls.texts.items():
                cls.trees[path] = ast.parse(text, str(path))
                compile(text, str(path), "exec")

    def nodes(self, *kinds):
        for path, tree in self.trees.items():
            for node in ast.walk(tree):
                if isinstance(node, kinds):
                    yield f"{path.name}:{getattr(node, 'lineno', 0)}", node

    def test_files(self):
        self.assertLessEqual(len(self.paths), 100)
        self.assertIn(PACKAGE / "__init__.py", self.paths)
        for path in self.paths:
            self.assertEqual(path.parent, PACKAGE)
            self.assertRegex(path.name, r"^([a-z][a-z0-9_]*|__init__)\.py$")
            self.assertNotIn(path.stem, dir(builtins))

    def test_characters_and_sizes(self):
        for path, text in self.texts.items():
            self.assertRegex(text, rb"^[ -~\n]*$", path.name)
            lines = text.decode().split("\n")
            self.assertLessEqual(len(lines) - 1, 399, path.name)
            self.assertLessEqual(max([len(line) for line in lines]), 120, path.name)
        for at, node in self.nodes(ast.FunctionDef):
            self.assertLessEqual(node.end_lineno - node.lineno + 1, 40, at)

    def test_statements(self):
        for at, node in self.nodes(ast.stmt):
            self.assertIsInstance(node, STATEMENTS, at)
            if isinstance(node, ast.Expr):
                text = isinstance(node.value, ast.Constant) and isinstance(node.value.value, str)
                self.assertTrue(text or isinstance(node.value, ast.Call), at)
        for path, tree in self.trees.items():
            for node in tree.body:
                at = f"{path.name}:{node.lineno}"
                self.assertIsInstance(node, (ast.Expr, ast.ImportFrom, ast.FunctionDef, ast.ClassDef, ast.Assign), at)
                if isinstance(node, ast.Assign):
                    self.assertEqual(len(node.targets), 1, at)
                    self.assertIsInstance(node.targets[0], ast.Name, at)
                    self.assertTrue(is_constant(node.value) or is_table(node.value), at)
                if isinstance(node, ast.Expr):
                    self.assertIsInstance(node.value, ast.Constant, at)

    def test_expressions(self):
        banned = (ast.GeneratorExp, ast.Lambda, ast.Set, ast.SetComp, ast.Await, ast.Yield, ast.YieldFrom,
                  ast.JoinedStr,
                  ast.NamedExpr, ast.Starred, ast.MatMult, ast.Div)
        for at, node in self.nodes(ast.AST):
            # The package has no need of these so far; the rules on them are long.
            self.assertNotIsInstance(node, banned, at)
            if isinstance(node, ast.Constant):
                self.assertNotIsInstance(node.value, (float, complex, bytes), at)
                if isinstance(node.value, str):
                    self.assertNotIn("%", node.value, at)
            if isinstance(node, ast.BinOp) and isinstance(node.op, ast.Pow):
                self.assertIsInstance(node.right, ast.Constant, at)
                self.assertIn(node.right.value, range(65), at)
            if isinstance(node, ast.Compare):
                for op, right in zip(node.ops, node.comparators):
                    if isinstance(op, (ast.Is, ast.IsNot)):
                        self.assertTrue(isinstance(right, ast.Constant) and right.value in (None, True, False), at)

    def test_imports(self):
        bound = {"rungshare." + path.stem: tree for path, tree in self.trees.items()}
        before = {}
        for path, tree in self.trees.items():
            at_top = True
            for node in tree.body[1:] if isinstance(tree.body[0], ast.Expr) else tree.body:
                at_top = at_top and isinstance(node, ast.ImportFrom)
                self.assertTrue(at_top or not isinstance(node, ast.ImportFrom), path.name)
        for at, node in self.nodes(ast.ImportFrom):
            self.assertEqual(node.level, 0, at)
            self.assertTrue(all([name.asname is None for name in node.names]), at)
            names = [name.name for name in node.names]
            if node.module in LIBRARY:
                self.assertLessEqual(set(names), set(LIBRARY[node.module].split()), at)
                continue
            defined = [part.name for part in bound[node.module].body
                       if isinstance(part, (ast.FunctionDef, ast.ClassDef))]
            defined += [part.targets[0].id for part in bound[node.module].body if isinstance(part, ast.Assign)]
            self.assertLessEqual(set(names), set(defined), at)
            before.setdefault("rungshare." + at.partition(".")[0], []).append(node.module)
        while before:
            free = [name for name, others in before.items() if not any([other in before for other in others])]
            self.assertTrue(free, f"a circle of imports: {before}")
            before = {name: others for name, others in before.items() if name not in free}

    def test_what_is_imported_is_used(self):
        for path, tree in self.trees.items():
            used = [node.id for node in ast.walk(tree) if isinstance(node, ast.Name)]
            for node in tree.body:
                if isinstance(node, ast.ImportFrom):
                    for name in node.names:
                        self.assertIn(name.name, used, f"{path.name}: {name.name}")

    def test_names(self):
        for path, tree in self.trees.items():
            top = names_of(tree)
            self.assertEqual(len(top), len(set(top)), path.name)
            imported = [name.name for node in tree.body if isinstance(node, ast.ImportFrom) for name in node.names]
            barred = imported + [node.name for node in tree.body if isinstance(node, ast.ClassDef)]
            for name in top:
                self.assertNotIn(name, dir(builtins), path.name)
            table = symtable.symtable(self.texts[path].decode(), path.name, "exec")
            for scope in self.scopes(table):
                for symbol in scope.get_symbols():
                    name = symbol.get_name()
                    where = f"{path.name} {scope.get_name()} {name}"
                    self.assertNotIn(name, NO_NAMES, where)
                    self.assertRegex(name.lstrip("."), r"^_?[a-zA-Z][a-zA-Z0-9_]*$|^_$|^__[a-z]+__$|^[0-9]+$", where)
                    self.assertTrue(not name.startswith("__") or name in DOUBLE, where)
                    if symbol.is_local() and scope.get_type() == "function":
                        self.assertNotIn(name, dir(builtins), where)
                        self.assertNotIn(name, barred, where)
                    if symbol.is_global() and name not in top:
                        self.assertIn(name, CALLED, where)

    def scopes(self, table):
        found = [table]
        for child in table.get_children():
            found += self.scopes(child)
        return found

    def test_calls(self):
        for at, node in self.nodes(ast.Call):
            if isinstance(node.func, ast.Attribute):
                self.assertIn(node.func.attr, METHODS.union(own_methods(self.trees.values())), at)
                self.assertEqual(node.keywords, [], at)
            else:
                self.assertIsInstance(node.func, ast.Name, at)
        for at, node in self.nodes(ast.Raise):
            self.assertIsInstance(node.exc, ast.Call, at)
            self.assertIsInstance(node.exc.func, ast.Name, at)

    def test_iterated_at_once(self):
        for path, tree in self.trees.items():
            allowed = []
            for node in ast.walk(tree):
                if isinstance(node, (ast.For, ast.comprehension)):
                    allowed.append(id(node.iter))
                if isinstance(node, ast.Call) and isinstance(node.func, ast.Name):
                    if node.func.id in ("list", "tuple", "dict", "sorted", "sum", "enumerate", "zip") and node.args:
                        allowed.append(id(node.args[0]))
                    if node.func.id == "reversed" and isinstance(node.args[0], ast.Call):
                        self.assertEqual(node.args[0].func.id, "range", path.name)
                        allowed.append(id(node.args[0]))
            for node in ast.walk(tree):
                if isinstance(node, ast.Call) and isinstance(node.func, ast.Name) and node.func.id in ITERATED:
                    self.assertIn(id(node), allowed, f"{path.name}:{node.lineno}")

    def test_words(self):
        for at, node in self.nodes(ast.Constant):
            if isinstance(node.value, str):
                self.assertNotRegex(node.value, r"^__.*__$|\._$|\.__$", at)
                self.assertNotRegex(node.value, r"\\", at)
        for at, node in self.nodes(ast.Name, ast.arg, ast.Attribute, ast.FunctionDef, ast.ClassDef):
            name = [getattr(node, field) for field in ("id", "arg", "attr", "name") if hasattr(node, field)][0]
            self.assertNotIn(name, NO_WORDS, at)
        for path, text in self.texts.items():
            self.assertNotRegex(text, rb"_wall|_WallAttr", path.name)

    def test_classes(self):
        in_classes = []
        for at, node in self.nodes(ast.ClassDef):
            self.assertEqual((node.decorator_list, node.keywords), ([], []), at)
            self.assertLessEqual(len(node.bases), 1, at)
            methods = [part for part in node.body if isinstance(part, ast.FunctionDef)]
            in_classes += methods
            names = [part.name for part in methods]
            self.assertEqual(len(names), len(set(names)), at)
            stored = [part.attr for part in ast.walk(node) if isinstance(part, ast.Attribute)
                      and isinstance(part.ctx, ast.Store)]
            self.assertFalse(set(names).intersection(stored), at)
            for name in names:
                self.assertTrue(name in DOUBLE or name == "copy" or name not in BARRED_METHODS, at)
        for at, node in self.nodes(ast.FunctionDef):
            self.assertTrue(all([is_constant(value) for value in node.args.defaults]), at)
            self.assertTrue(not node.name.startswith("__") or (node.name in DOUBLE and node in in_classes), at)
            self.assertTrue(node in in_classes or node.decorator_list == [], at)
            for decorator in node.decorator_list:
                self.assertEqual(ast.unparse(decorator), "property", at)

    def test_attributes(self):
        stored = {part.attr for _, part in self.nodes(ast.Attribute) if isinstance(part.ctx, ast.Store)}
        properties = [node.name for _, node in self.nodes(ast.FunctionDef) if node.decorator_list]
        called = [id(node.func) for _, node in self.nodes(ast.Call)]
        for name in stored:
            self.assertNotIn(name, properties)
            self.assertNotIn(name, BARRED_METHODS)
        for at, node in self.nodes(ast.Attribute):
            if isinstance(node.ctx, ast.Load) and id(node) not in called:
                self.assertTrue(node.attr in stored or node.attr in properties, at)
        for at, node in self.nodes(ast.FunctionDef):
            if node.decorator_list:
                # A property does nothing but tell an attribute.
                self.assertEqual(len(node.body), 1, at)
                self.assertRegex(ast.unparse(node.body[0]), r"^return self\.[a-z]+$", at)

    def test_double_methods(self):
        for at, node in self.nodes(ast.FunctionDef):
            rows = [ast.unparse(row) for row in node.body]
            if node.name == "__len__":
                self.assertRegex(rows[-1], r"^return len\(.*\)$", at)
                self.assertEqual(len(rows), 1, at)
            if node.name == "__eq__":
                self.assertEqual(len(rows), 1, at)
                self.assertTrue(rows[0].startswith("return isinstance(other, "), at)
            if node.name == "__init__":
                self.assertFalse([part for part in ast.walk(node) if isinstance(part, ast.Return)], at)
            if node.name == "__exit__":
                self.assertEqual([part.arg for part in node.args.args], ["self", "kind", "value", "trace"], at)
                for row in rows:
                    self.assertRegex(row, r"^self\.[a-z.]+ = self\.[a-z.]+$", at)

    def test_caught(self):
        for at, node in self.nodes(ast.Try):
            self.assertEqual((node.orelse, node.finalbody), ([], []), at)
            for handler in node.handlers:
                self.assertIs(handler.name, None, at)
                caught = handler.type.elts if isinstance(handler.type, ast.Tuple) else [handler.type]
                own = [part.name for part in self.trees[PACKAGE / "errors.py"].body if isinstance(part, ast.ClassDef)]
                for one in caught:
                    self.assertIn(one.id, own, at)
        for at, node in self.nodes(ast.With):
            self.assertEqual(len(node.items), 1, at)

    def test_tables_are_only_read(self):
        tables = {target.id for tree in self.trees.values() for node in tree.body if isinstance(node, ast.Assign)
                  for target in node.targets if isinstance(node.value, (ast.Dict, ast.List))}
        self.assertTrue(tables)
        for path, tree in self.trees.items():
            fine = []
            for node in ast.walk(tree):
                if isinstance(node, ast.Subscript) and isinstance(node.ctx, ast.Load):
                    fine.append(id(node.value))
                if isinstance(node, ast.Compare):
                    fine += [id(part) for part in node.comparators]
                if isinstance(node, ast.Attribute) and node.attr == "get":
                    fine.append(id(node.value))
                if isinstance(node, ast.Call) and isinstance(node.func, ast.Name) and node.func.id in ("list", "dict",
                                                                                                       "len"):
                    fine += [id(part) for part in node.args]
            for node in ast.walk(tree):
                if isinstance(node, ast.Name) and node.id in tables and isinstance(node.ctx, ast.Load):
                    self.assertIn(id(node), fine, f"{path.name}:{node.lineno} {node.id}")
                if isinstance(node, ast.Call) and isinstance(node.func, ast.Subscript):
                    self.fail(f"{path.name}:{node.lineno}")

    def test_each_loop_leaves_what_it_goes_over(self):
        changing = re.compile(r"append|extend|insert|pop|remove|clear|update|reverse|setdefault")
        for at, node in self.nodes(ast.For):
            over = [part.id for part in ast.walk(node.iter) if isinstance(part, ast.Name)]
            for part in ast.walk(node):
                if isinstance(part, ast.Call) and isinstance(part.func, ast.Attribute):
                    if changing.fullmatch(part.func.attr) and isinstance(part.func.value, ast.Name):
                        self.assertNotIn(part.func.value.id, over, at)
                if isinstance(part, ast.Subscript) and isinstance(part.ctx, ast.Store):
                    if isinstance(part.value, ast.Name):
                        self.assertNotIn(part.value.id, over, at)


if __name__ == "__main__":
    unittest.main()
