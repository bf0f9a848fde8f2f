"""The form of the code: what can be seen by a plain look at each file of the package."""

import ast
import builtins
import pathlib
import re
import unittest
import warnings

FOLDER = pathlib.Path(__file__).resolve().parent.parent / "backinstep"
LIBRARY = {
    "heapq": {"heappush", "heappop", "heapify", "heapreplace", "heappushpop"},
    "math": {"gcd", "lcm", "isqrt", "comb", "perm", "factorial"},
    "itertools": {"product", "combinations", "permutations"},
}
BUILTINS = set("""len range enumerate zip min max sum abs sorted reversed int str bool bytes list tuple dict set frozenset
    isinstance ord repr any all divmod Exception ValueError TypeError KeyError IndexError LookupError ZeroDivisionError
    ArithmeticError OverflowError RuntimeError NotImplementedError AttributeError StopIteration NotImplemented
    iter next map super property staticmethod classmethod""".split())
VALUE_METHODS = set("""append clear copy count endswith extend find get index insert isalnum isalpha isdigit islower
    isspace isupper items join keys ljust lower lstrip partition pop remove replace reverse rfind rjust rpartition rsplit
    rstrip setdefault split splitlines startswith strip update upper values zfill bit_length""".split())
CHANGING = {"append", "clear", "extend", "insert", "pop", "remove", "reverse", "setdefault", "update", "add", "discard"}
STATEMENTS = (
    ast.Assign, ast.AugAssign, ast.If, ast.While, ast.For, ast.Return, ast.Break, ast.Continue, ast.Pass, ast.Raise,
    ast.Expr, ast.Try, ast.FunctionDef, ast.ClassDef, ast.ImportFrom,
)
BARRED = {"register", "mro", "elements", "open", "input", "law", "version_info", "with_traceback", "add_note"}
BARRED_NAMES = BARRED | set("""attrgetter breakpoint builtins compile copyright credits delattr dir eval exec exit gc
    getattr globals hasattr help id importlib license locals methodcaller os quit setattr super type vars sys""".split())
WORDS = re.compile(r"\b(type|typing|typing_extensions|enum|Enum|IntEnum|StrEnum|Flag|IntFlag|Generic|Protocol|ABC|ABCMeta|"
                   r"namedtuple|NamedTuple|TypedDict|TYPE_CHECKING|abstractmethod)\b|dataclass|overload|contextmanager")
DOUBLE = {"__init__", "__eq__", "__repr__", "__str__", "__len__", "__contains__"}
ALLOWED_KEYWORDS = [
    ("sorted", "key"), ("sorted", "reverse"), ("min", "key"), ("max", "key"), ("min", "default"), ("max", "default"),
]
AT_ONCE = {"list", "tuple", "dict", "sorted", "sum", "any", "all", "enumerate", "zip", "bytes", "min", "max"}


def parents_of(tree):
    return {child: node for node in ast.walk(tree) for child in ast.iter_child_nodes(node)}


def called_name(node):
    return node.func.id if isinstance(node, ast.Call) and isinstance(node.func, ast.Name) else None


def method_name(node):
    return node.func.attr if isinstance(node, ast.Call) and isinstance(node.func, ast.Attribute) else None


class LanguageTest(unittest.TestCase):

    def setUp(self):
        self.texts = {path.name: path.read_text(encoding="utf-8") for path in sorted(FOLDER.glob("*.py"))}
        with warnings.catch_warnings():
            warnings.simplefilter("error")
            self.trees = {name: ast.parse(text) for name, text in self.texts.items()}
            for name, text in self.texts.items():
                compile(text, name, "exec")

    def nodes(self, *kinds):
        for name, tree in self.trees.items():
            for node in ast.walk(tree):
                if not kinds or isinstance(node, kinds):
                    yield name, node

    def wrong(self, name, node, rule):
        self.fail(f"{name}:{getattr(node, 'lineno', 0)}: {rule}")

    def test_files(self):
        for path in FOLDER.iterdir():
            if path.name != "__pycache__":
                self.assertRegex(path.name, r"^[a-z_][a-z0-9_]*\.py$")
        self.assertLessEqual(len(self.texts), 100)
        for name, text in self.texts.items():
            self.assertTrue(all(sign == "\n" or " " <= sign <= "~" for sign in text), name)
            lines = text.split("\n")
            self.assertLessEqual(len(lines) - 1, 399, name)
            self.assertLessEqual(max(map(len, lines)), 120, name)
            self.assertNotIn("_wall", text)
            self.assertNotIn("_WallAttr", text)

    def test_imports(self):
        for name, node in self.nodes(ast.Import):
            self.wrong(name, node, "L16 import")
        ahead = {}
        for name, node in self.nodes(ast.ImportFrom):
            self.assertEqual(node.level, 0)
            self.assertIn(node, self.trees[name].body)
            for told in node.names:
                self.assertIsNone(told.asname)
                if node.module in LIBRARY:
                    self.assertIn(told.name, LIBRARY[node.module])
                    continue
                folder, place = node.module.split(".")
                self.assertEqual(folder, "backinstep")
                ahead.setdefault(name, set()).add(place + ".py")
                bound = [self.bound(at) for at in self.trees[place + ".py"].body]
                self.assertIn(told.name, bound, f"{name}: {told.name} is not defined in {place}")
        for name in ahead:
            seen, queue = set(), list(ahead[name])
            while queue:
                place = queue.pop()
                if place not in seen:
                    seen.add(place)
                    queue += ahead.get(place, ())
            self.assertNotIn(name, seen, "L16 files that import from each other")

    def bound(self, node):
        if isinstance(node, (ast.FunctionDef, ast.ClassDef)):
            return node.name
        if isinstance(node, ast.Assign) and isinstance(node.targets[0], ast.Name):
            return node.targets[0].id
        return None

    def test_every_import_is_used(self):
        for name, tree in self.trees.items():
            used = {node.id for node in ast.walk(tree) if isinstance(node, ast.Name)}
            for node in tree.body:
                if isinstance(node, ast.ImportFrom):
                    for told in node.names:
                        self.assertIn(told.name, used, name)

    def test_every_own_function_is_used_or_in_the_interface(self):
        document = FOLDER.parent.parent / "shared" / "DOC.md"
        if not document.exists():
            self.skipTest("the document is not here")
        told = document.read_text(encoding="utf-8")
        used = {node.id for _, node in self.nodes(ast.Name)} | {node.attr for _, node in self.nodes(ast.Attribute)}
        for name, node in self.nodes(ast.FunctionDef, ast.ClassDef):
            if not node.name.startswith("__"):
                self.assertTrue(node.name in used or f"`{node.name}`" in told, f"{name}: {node.name}")

    def test_module_level(self):
        for name, tree in self.trees.items():
            seen = set()
            for at, node in enumerate(tree.body):
                docstring = at == 0 and isinstance(node, ast.Expr) and isinstance(node.value, ast.Constant)
                if isinstance(node, ast.ImportFrom):
                    names = [told.name for told in node.names]
                elif isinstance(node, ast.Assign):
                    self.assertEqual(len(node.targets), 1)
                    self.assertFalse([call for call in ast.walk(node) if isinstance(call, ast.Call)])
                    names = [node.targets[0].id]
                elif isinstance(node, (ast.FunctionDef, ast.ClassDef)):
                    names = [node.name]
                else:
                    self.assertTrue(docstring, f"{name}: {ast.dump(node)}")
                    names = []
                for told in names:
                    self.assertNotIn(told, seen, name)
                    self.assertFalse(hasattr(builtins, told), told)
                    seen.add(told)

    def test_statements(self):
        for name, node in self.nodes(ast.stmt):
            self.assertIsInstance(node, STATEMENTS, f"{name}:{node.lineno}")
            if isinstance(node, ast.Try):
                self.check_finally(name, node)
                for handler in node.handlers:
                    kinds = handler.type.elts if isinstance(handler.type, ast.Tuple) else [handler.type]
                    for kind in kinds:
                        self.assertIsInstance(kind, ast.Name)
                        self.assertTrue(kind.id.startswith(("Back", "Bad", "Paper", "Refused", "Too", "No", "Key")))
            if isinstance(node, ast.Raise):
                self.assertIsInstance(node.exc, ast.Call)
                self.assertIsInstance(node.exc.func, ast.Name)
                self.assertFalse(node.exc.keywords)
            if isinstance(node, ast.Expr) and not isinstance(node.value, (ast.Call, ast.Constant)):
                self.wrong(name, node, "L6 statement")

    def check_finally(self, name, node):
        """A block behind `finally` only assigns names, that were assigned before, to attributes."""
        for at in node.finalbody:
            self.assertIsInstance(at, ast.Assign, name)
            for side in (at.targets[0], at.value):
                for part in side.elts if isinstance(side, ast.Tuple) else [side]:
                    self.assertIsInstance(part, ast.Attribute if side is at.targets[0] else ast.Name, name)

    def test_functions(self):
        for name, node in self.nodes(ast.FunctionDef):
            self.assertLessEqual(node.end_lineno - node.lineno + 1, 40, f"{name}: {node.name}")
            self.assertFalse(node.decorator_list)
            self.assertIsNone(node.returns)
            told = node.args
            self.assertFalse(told.posonlyargs or told.vararg or told.kwarg)
            # what stands behind a bare star may have no default value
            for default in told.defaults + [told_value for told_value in told.kw_defaults if told_value]:
                plain = isinstance(default, (ast.Constant, ast.Name)) or ast.unparse(default) == "()"
                self.assertTrue(plain, f"{name}: {node.name}")
            if node.name.startswith("__"):
                self.assertIn(node.name, DOUBLE)
        for name, node in self.nodes(ast.ClassDef):
            self.assertFalse(node.decorator_list)
            self.assertIn(node, self.trees[name].body)
            self.assertLessEqual(len(node.bases), 1)
            for at in node.body:
                self.assertTrue(isinstance(at, (ast.FunctionDef, ast.Expr)))
        for name, node in self.nodes(ast.Lambda):
            self.assertFalse(node.args.defaults)

    def test_lambdas_on_one_line(self):
        for name, tree in self.trees.items():
            lines = [node.lineno for node in ast.walk(tree) if isinstance(node, ast.Lambda)]
            self.assertEqual(len(lines), len(set(lines)), name)

    def test_builtins(self):
        for name, tree in self.trees.items():
            stored = {node.id for node in ast.walk(tree) if isinstance(node, ast.Name) and isinstance(node.ctx, ast.Store)}
            stored |= {node.arg for node in ast.walk(tree) if isinstance(node, ast.arg)}
            for told in stored:
                # doctest leaves a `_` among the builtins
                self.assertFalse(told != "_" and hasattr(builtins, told), f"{name}: {told}")
                self.assertNotIn(told, BARRED_NAMES)
                self.assertRegex(told, r"^(_|_?[A-Za-z][A-Za-z0-9_]*)$")
            for node in ast.walk(tree):
                if isinstance(node, ast.Name) and node.id != "_" and hasattr(builtins, node.id):
                    self.assertIn(node.id, BUILTINS, f"{name}:{node.lineno}")
                if isinstance(node, ast.Name) and node.id == "_":
                    self.assertIsInstance(node.ctx, ast.Store)

    def test_builtins_are_called(self):
        for name, tree in self.trees.items():
            parents = parents_of(tree)
            for node in ast.walk(tree):
                if isinstance(node, ast.Name) and node.id in BUILTINS - {"ValueError", "KeyError"}:
                    parent = parents[node]
                    called = isinstance(parent, ast.Call) and parent.func is node
                    key = isinstance(parent, ast.keyword) and parent.arg == "key"
                    asked = isinstance(parent, ast.Call) and called_name(parent) == "isinstance"
                    asked = asked or isinstance(parent, ast.Tuple)
                    self.assertTrue(called or key or asked, f"{name}:{node.lineno}")

    def test_local_names_are_no_imports_or_classes(self):
        for name, tree in self.trees.items():
            told = {at.name for node in tree.body if isinstance(node, ast.ImportFrom) for at in node.names}
            told |= {node.name for node in tree.body if isinstance(node, (ast.ClassDef, ast.FunctionDef))}
            for node in ast.walk(tree):
                if isinstance(node, ast.Name) and isinstance(node.ctx, ast.Store):
                    self.assertNotIn(node.id, told, f"{name}:{node.lineno}")
                if isinstance(node, ast.arg):
                    self.assertNotIn(node.arg, told, f"{name}:{node.lineno}")

    def test_names_and_attributes(self):
        own = {node.name for _, node in self.nodes(ast.FunctionDef)}
        assigned = {node.attr for _, node in self.nodes(ast.Attribute) if isinstance(node.ctx, ast.Store)}
        for name, node in self.nodes(ast.Attribute):
            self.assertNotIn(node.attr, BARRED)
            self.assertFalse(node.attr.startswith("__") and node.attr != "__init__")
            if isinstance(node.ctx, ast.Load):
                self.assertTrue(node.attr in own | assigned | VALUE_METHODS, f"{name}:{node.lineno}: {node.attr}")
        for name, node in self.nodes(ast.Call):
            if method_name(node):
                self.assertTrue(method_name(node) in own | VALUE_METHODS, f"{name}:{node.lineno}: {method_name(node)}")
                self.assertFalse(node.keywords and method_name(node) in VALUE_METHODS)
        self.assertFalse(assigned & {"items", "keys", "values", "pop", "update", "append", "clear", "extend", "insert",
                                     "remove", "reverse", "setdefault", "sort", "args", "format"})

    def test_methods_are_called_where_they_stand(self):
        methods = {at.name for _, node in self.nodes(ast.ClassDef) for at in node.body if isinstance(at, ast.FunctionDef)}
        for name, tree in self.trees.items():
            parents = parents_of(tree)
            for node in ast.walk(tree):
                if isinstance(node, ast.Attribute) and node.attr in methods | VALUE_METHODS:
                    parent = parents[node]
                    self.assertTrue(isinstance(parent, ast.Call) and parent.func is node, f"{name}:{node.lineno}")

    def test_no_name_is_a_method_and_an_attribute(self):
        methods = {at.name for _, node in self.nodes(ast.ClassDef) for at in node.body if isinstance(at, ast.FunctionDef)}
        assigned = {node.attr for _, node in self.nodes(ast.Attribute) if isinstance(node.ctx, ast.Store)}
        self.assertFalse(methods & assigned)

    def test_words(self):
        for name, tree in self.trees.items():
            bare = self.texts[name]
            docstrings = [ast.get_docstring(node, clean=False) for node in ast.walk(tree)
                          if isinstance(node, (ast.Module, ast.ClassDef, ast.FunctionDef))]
            for text in docstrings:
                bare = bare.replace(text or "\0", "")
            bare = re.sub(r"#.*", "", bare)
            self.assertIsNone(WORDS.search(bare), name)

    def test_strings(self):
        for name, node in self.nodes(ast.Constant):
            self.assertFalse(isinstance(node.value, (float, complex)))
            if isinstance(node.value, str):
                self.assertNotIn("%", node.value)
        for name, text in self.texts.items():
            self.assertIsNone(re.search(r"\\[^nt\\'\"]", text), name)

    def test_operators(self):
        for name, node in self.nodes(ast.BinOp, ast.AugAssign):
            self.assertNotIsInstance(node.op, (ast.Div, ast.MatMult))
            if isinstance(node, ast.BinOp) and isinstance(node.op, ast.Pow):
                self.assertTrue(isinstance(node.left, ast.Constant) and isinstance(node.right, ast.Constant))
                self.assertLessEqual(node.right.value, 64)
        for name, node in self.nodes(ast.Compare):
            for op, right in zip(node.ops, node.comparators):
                if isinstance(op, (ast.Is, ast.IsNot)):
                    self.assertTrue(isinstance(right, ast.Constant) and right.value in (None, True, False))
        for name, node in self.nodes(ast.NamedExpr, ast.Yield, ast.YieldFrom, ast.Await, ast.Set, ast.SetComp):
            self.wrong(name, node, "is not used here")

    def test_stars(self):
        for name, tree in self.trees.items():
            parents = parents_of(tree)
            for node in ast.walk(tree):
                if isinstance(node, ast.Starred):
                    self.assertIsInstance(node.value, ast.Name, f"{name}:{node.lineno}")
                    self.assertIsInstance(parents[node], ast.Call, f"{name}:{node.lineno}")
                    self.assertTrue(called_name(parents[node]) and not hasattr(builtins, called_name(parents[node])))

    def test_generator_expressions(self):
        for name, tree in self.trees.items():
            parents = parents_of(tree)
            for node in ast.walk(tree):
                if isinstance(node, ast.GeneratorExp):
                    self.assertIn(called_name(parents[node]), ("list", "tuple", "dict"), f"{name}:{node.lineno}")

    def test_comprehensions(self):
        for name, node in self.nodes(ast.ListComp, ast.DictComp):
            self.assertLessEqual(len(node.generators), 6)

    def test_iterated_at_once(self):
        for name, tree in self.trees.items():
            parents = parents_of(tree)
            for node in ast.walk(tree):
                views = method_name(node) in ("items", "keys", "values")
                if called_name(node) in ("zip", "enumerate", "reversed") or views:
                    parent = parents[node]
                    looped = isinstance(parent, (ast.For, ast.comprehension)) and parent.iter is node
                    inside = called_name(parent) in AT_ONCE and parent.args[0] is node
                    self.assertTrue(looped or inside, f"{name}:{node.lineno}")

    def test_sets(self):
        for name, tree in self.trees.items():
            parents = parents_of(tree)
            for node in ast.walk(tree):
                if called_name(node) == "set":
                    self.assertIn(called_name(parents[node]), ("sorted", "len"), f"{name}:{node.lineno}")
                    self.assertFalse(parents[node].keywords)
                self.assertFalse(called_name(node) == "frozenset")

    def test_keywords(self):
        own = {node.name: node.args for _, node in self.nodes(ast.FunctionDef)}
        for name, node in self.nodes(ast.Call):
            for keyword in node.keywords:
                called = called_name(node) or method_name(node)
                if called in own:
                    self.assertIn(keyword.arg, [told.arg for told in own[called].args + own[called].kwonlyargs])
                else:
                    self.assertIn((called, keyword.arg), ALLOWED_KEYWORDS, f"{name}:{node.lineno}")

    def test_length(self):
        for name, node in self.nodes(ast.FunctionDef):
            if node.name == "__len__":
                self.assertEqual(len(node.body), 1)
                self.assertTrue(ast.unparse(node.body[0]).startswith("return len("))

    def test_loops_leave_alone_what_they_go_over(self):
        for name, node in self.nodes(ast.For):
            over = {ast.unparse(at) for at in ast.walk(node.iter) if isinstance(at, (ast.Name, ast.Attribute, ast.Subscript))}
            over -= {at.func.id for at in ast.walk(node.iter) if called_name(at)}
            for statement in node.body:
                for at in ast.walk(statement):
                    changed = None
                    if method_name(at) in CHANGING:
                        changed = ast.unparse(at.func.value)
                    if called_name(at) in ("heappush", "heappop", "heapify"):
                        changed = ast.unparse(at.args[0])
                    if isinstance(at, ast.Subscript) and isinstance(at.ctx, (ast.Store, ast.Del)):
                        changed = ast.unparse(at.value)
                    self.assertNotIn(changed, over, f"{name}:{node.lineno}")

    def test_errors_are_made_on_the_spot(self):
        names = {node.name for _, node in self.nodes(ast.ClassDef)}
        for name, tree in self.trees.items():
            parents = parents_of(tree)
            for node in ast.walk(tree):
                if isinstance(node, ast.Name) and node.id in names:
                    parent = parents[node]
                    called = isinstance(parent, ast.Call) and (parent.func is node or called_name(parent) == "isinstance")
                    if isinstance(parent, ast.Tuple):
                        parent = parents[parent]
                    base = isinstance(parent, (ast.ClassDef, ast.ExceptHandler))
                    self.assertTrue(called or base, f"{name}:{node.lineno}")

    def test_equality(self):
        for name, node in self.nodes(ast.FunctionDef):
            if node.name == "__eq__":
                self.assertEqual(len(node.body), 1)
                self.assertTrue(ast.unparse(node.body[0]).startswith("return isinstance(other, "))


if __name__ == "__main__":
    unittest.main()
