"""Rules of the language that the files of the package keep, as far as a look at their text can tell."""
import ast
import builtins
import glob
import os
import re
import unittest
import warnings

HERE = os.path.dirname(os.path.abspath(__file__))
FOLDER = os.path.join(HERE, "..", "neverhalves")

BUILTINS = set("""len range enumerate zip min max sum abs sorted reversed int str bool list tuple dict set isinstance
ord repr any all divmod Exception ValueError TypeError KeyError IndexError LookupError ZeroDivisionError
ArithmeticError OverflowError RuntimeError NotImplementedError AttributeError NotImplemented super property""".split())
LIBRARY = {
    "heapq": {"heappush", "heappop", "heapify", "heapreplace", "heappushpop"},
    "math": {"gcd", "lcm", "isqrt", "comb", "perm", "factorial"},
    "itertools": {"product", "combinations", "permutations", "chain", "accumulate", "pairwise", "islice"},
    "collections": {"defaultdict", "deque"},
}
METHODS = set("""append clear copy count endswith extend find get index insert isalnum isalpha isdigit islower isspace
isupper items join keys ljust lower lstrip partition pop remove replace reverse rfind rjust rpartition rsplit rstrip
setdefault split splitlines startswith strip update upper values zfill bit_length add discard""".split())
STATEMENTS = (
    ast.Import, ast.ImportFrom, ast.FunctionDef, ast.ClassDef, ast.Assign, ast.AugAssign, ast.AnnAssign, ast.If,
    ast.While, ast.For, ast.Return, ast.Break, ast.Continue, ast.Pass, ast.Raise, ast.Assert, ast.Delete, ast.Nonlocal,
    ast.Match, ast.With, ast.Try, ast.Expr,
)
BARRED = re.compile(r"\b(type|typing|typing_extensions|enum|Enum|IntEnum|StrEnum|Flag|IntFlag|Generic|Protocol|ABC|"
                    r"ABCMeta|namedtuple|NamedTuple|TypedDict|TYPE_CHECKING|abstractmethod|_wall|_WallAttr|register|"
                    r"mro|elements|open|input|law)\b|dataclass|overload|contextmanager")
AT_ONCE = {"zip", "enumerate", "reversed", "map"}
TAKERS = {"list", "tuple", "dict", "sorted", "sum", "any", "all", "enumerate", "zip", "min", "max", "join"}


def paths():
    """The files of the package."""
    return sorted(glob.glob(os.path.join(FOLDER, "*.py")))


def sources():
    """Name, text and tree of each file."""
    for path in paths():
        with open(path, encoding="utf-8") as file:
            text = file.read()
        yield os.path.basename(path), text, ast.parse(text)


def called(node):
    """The name that a call calls, a bare one or that of a method."""
    if isinstance(node, ast.Call):
        if isinstance(node.func, ast.Name):
            return node.func.id
        if isinstance(node.func, ast.Attribute):
            return node.func.attr
    return None


def parents(tree):
    """What each node stands in."""
    return {child: node for node in ast.walk(tree) for child in ast.iter_child_nodes(node)}


def bound(tree):
    """All names that the functions of a file bind: parameters, targets, comprehension variables."""
    names = {node.id for node in ast.walk(tree) if isinstance(node, ast.Name) and isinstance(node.ctx, ast.Store)}
    return names | {node.arg for node in ast.walk(tree) if isinstance(node, ast.arg)}


class Language(unittest.TestCase):
    def test_files(self):
        self.assertIn("__init__.py", os.listdir(FOLDER))
        for name in os.listdir(FOLDER):
            if name != "__pycache__":
                self.assertRegex(name, r"^[a-z_][a-z0-9_]*\.py$")
        self.assertLessEqual(len(paths()), 100)

    def test_lines(self):
        for name, text, _ in sources():
            self.assertLessEqual(len(text.splitlines()), 399, name)
            self.assertRegex(text, r"^[ -~\n]*$", name)
            for line in text.splitlines():
                self.assertLessEqual(len(line), 120, (name, line))

    def test_no_warnings(self):
        for name, text, _ in sources():
            with warnings.catch_warnings():
                warnings.simplefilter("error")
                compile(text, name, "exec")

    def test_functions_are_short_and_undecorated(self):
        for name, _, tree in sources():
            for node in ast.walk(tree):
                if isinstance(node, ast.FunctionDef):
                    self.assertLessEqual(node.end_lineno - node.lineno + 1, 40, (name, node.name))
                    self.assertEqual([ast.unparse(one) for one in node.decorator_list
                                      if ast.unparse(one) != "property"], [], (name, node.name))
                    self.assertIsNotNone(ast.get_docstring(node) or node.name.startswith("__") or None, node.name)

    def test_imports(self):
        homes = {}
        for name, _, tree in sources():
            for node in tree.body:
                if isinstance(node, (ast.FunctionDef, ast.ClassDef)):
                    homes[(name, node.name)] = True
                if isinstance(node, ast.Assign):
                    homes[(name, node.targets[0].id)] = True
        wants = {}
        for name, _, tree in sources():
            wants[name] = set()
            head = True
            for node in tree.body:
                if isinstance(node, ast.ImportFrom):
                    self.assertTrue(head, name)
                    self.assertEqual(node.level, 0)
                    for one in node.names:
                        self.assertIsNone(one.asname)
                        if node.module in LIBRARY:
                            self.assertIn(one.name, LIBRARY[node.module])
                        else:
                            self.assertRegex(node.module, r"^neverhalves\.[a-z]+$")
                            file = node.module.split(".")[1] + ".py"
                            self.assertIn((file, one.name), homes)
                            wants[name].add(file)
                elif not (isinstance(node, ast.Expr) and isinstance(node.value, ast.Constant)):
                    head = False
                    self.assertNotIsInstance(node, ast.Import)
        while wants:
            free = [name for name in wants if not wants[name] & set(wants)]
            self.assertTrue(free, "files that import from each other")
            for name in free:
                del wants[name]

    def test_module_level(self):
        for name, _, tree in sources():
            seen = []
            for node in tree.body:
                self.assertIsInstance(node, (ast.ImportFrom, ast.FunctionDef, ast.ClassDef, ast.Assign, ast.Expr))
                if isinstance(node, ast.Expr):
                    self.assertIsInstance(node.value, ast.Constant)
                elif isinstance(node, ast.ImportFrom):
                    seen.extend(one.name for one in node.names)
                elif isinstance(node, ast.Assign):
                    self.assertEqual(len(node.targets), 1)
                    seen.append(node.targets[0].id)
                    ast.literal_eval(node.value)
                else:
                    seen.append(node.name)
            self.assertEqual(len(seen), len(set(seen)), name)

    def test_names(self):
        for name, _, tree in sources():
            barred = {one.name for node in tree.body if isinstance(node, ast.ImportFrom) for one in node.names}
            barred |= {node.name for node in tree.body if isinstance(node, ast.ClassDef)}
            local = bound(tree)
            self.assertEqual(local & barred, set(), name)
            defined = {node.name for node in ast.walk(tree) if isinstance(node, (ast.FunctionDef, ast.ClassDef))}
            self.assertEqual((local | defined) & set(dir(builtins)) - {"_"}, set(), name)
            for one in local | defined:
                self.assertRegex(one, r"^_?[A-Za-z][A-Za-z0-9_]*$|^_$|^__init__$|^__len__$")
            for node in ast.walk(tree):
                if isinstance(node, ast.Name) and node.id == "_":
                    self.assertIsInstance(node.ctx, ast.Store)
                if isinstance(node, ast.Name) and node.id != "_" and node.id in dir(builtins):
                    self.assertIn(node.id, BUILTINS, name)

    def test_words(self):
        for name, text, tree in sources():
            for node in ast.walk(tree):
                for field in ("id", "attr", "arg", "name"):
                    word = getattr(node, field, None)
                    if isinstance(word, str):
                        self.assertIsNone(BARRED.search(word), (name, word))
            for node in ast.walk(tree):
                if isinstance(node, ast.Constant) and isinstance(node.value, str):
                    self.assertNotIn(chr(37), node.value, name)

    def test_statements_and_expressions(self):
        for name, _, tree in sources():
            above = parents(tree)
            for node in ast.walk(tree):
                where = (name, getattr(node, "lineno", 0))
                if isinstance(node, ast.stmt):
                    self.assertIsInstance(node, STATEMENTS, where)
                self.assertNotIsInstance(node, (ast.Await, ast.Div, ast.MatMult, ast.Global), where)
                if isinstance(node, ast.Constant):
                    self.assertNotIsInstance(node.value, (float, complex), where)
                if isinstance(node, ast.BinOp) and isinstance(node.op, ast.Pow):
                    self.assertIsInstance(node.right, ast.Constant, where)
                if isinstance(node, (ast.Is, ast.IsNot)):
                    self.assertIsInstance(above[node].comparators[0], ast.Constant, where)
                if isinstance(node, ast.GeneratorExp):
                    self.assertIn(called(above[node]), TAKERS, where)
                if isinstance(node, ast.Starred):
                    self.assertIsInstance(node.value, (ast.Name, ast.Attribute), where)

    def test_lambdas(self):
        for name, _, tree in sources():
            rows = [node.lineno for node in ast.walk(tree) if isinstance(node, ast.Lambda)]
            self.assertEqual(len(rows), len(set(rows)), name)

    def test_methods(self):
        own = {node.name for _, _, tree in sources() for node in ast.walk(tree) if isinstance(node, ast.FunctionDef)}
        for name, _, tree in sources():
            for node in ast.walk(tree):
                if isinstance(node, ast.Call) and isinstance(node.func, ast.Attribute):
                    self.assertIn(node.func.attr, METHODS | own, (name, node.lineno))

    def test_iterated_at_once(self):
        for name, _, tree in sources():
            above = parents(tree)
            for node in ast.walk(tree):
                if called(node) in AT_ONCE or called(node) in ("items", "keys", "values"):
                    around = above[node]
                    right = isinstance(around, (ast.For, ast.comprehension)) or called(around) in TAKERS
                    self.assertTrue(right, (name, node.lineno))

    def test_sets_stand_where_they_may(self):
        for name, _, tree in sources():
            above = parents(tree)
            for node in ast.walk(tree):
                if isinstance(node, (ast.Set, ast.SetComp)) or called(node) == "set":
                    around = above[node]
                    right = called(around) in ("sorted", "len") or isinstance(around, ast.Compare)
                    self.assertTrue(right, (name, node.lineno))

    def test_what_a_loop_goes_over_is_not_changed_in_it(self):
        changing = {"append", "clear", "extend", "insert", "pop", "remove", "reverse", "setdefault", "update"}
        for name, _, tree in sources():
            for loop in ast.walk(tree):
                if not isinstance(loop, ast.For):
                    continue
                over = {node.id for node in ast.walk(loop.iter) if isinstance(node, ast.Name)}
                for node in [inner for row in loop.body for inner in ast.walk(row)]:
                    if isinstance(node, ast.Subscript) and isinstance(node.ctx, (ast.Store, ast.Del)):
                        self.assertNotIn(ast.unparse(node.value), over, (name, node.lineno))
                    if isinstance(node, ast.Call) and called(node) in changing:
                        self.assertNotIn(ast.unparse(node.func.value), over, (name, node.lineno))
                    if isinstance(node, ast.Call) and str(called(node)).startswith("heap"):
                        self.assertNotIn(ast.unparse(node.args[0]), over, (name, node.lineno))


if __name__ == "__main__":
    unittest.main()
