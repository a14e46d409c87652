"""The rules for the files of the package that a look at their text and their syntax can tell."""

import ast
import builtins
import pathlib
import re
import unittest

PACKAGE = pathlib.Path(__file__).resolve().parent.parent / "pointrows"
LIBRARY = {
    "heapq": {"heappush", "heappop", "heapify", "heapreplace", "heappushpop"},
    "math": {"gcd", "lcm", "isqrt", "comb", "perm", "factorial"},
    "itertools": {"product", "combinations", "permutations"},
}
BUILTINS = set(
    "len range enumerate zip min max sum abs sorted reversed int str bool bytes list tuple dict set isinstance ord "
    "repr any all divmod map iter next super property staticmethod classmethod Exception ValueError TypeError KeyError "
    "IndexError LookupError ZeroDivisionError ArithmeticError OverflowError RuntimeError NotImplementedError "
    "AttributeError StopIteration NotImplemented object float".split()
)
METHODS = set(
    "append clear copy count endswith extend find get index insert isalnum isalpha isdigit islower isspace isupper "
    "items join keys ljust lower lstrip partition pop remove replace reverse rfind rjust rpartition rsplit rstrip "
    "setdefault split splitlines startswith strip update upper values zfill bit_length removeprefix removesuffix "
    "isascii isdecimal isnumeric add discard".split()
)
DOUBLE = set(
    "__init__ __eq__ __repr__ __str__ __len__ __enter__ __exit__ __call__ __iter__ __add__ __sub__ __mul__ __neg__ "
    "__contains__ __getitem__ __bool__".split()
)
UNUSED = set(
    "register mro elements open input law version_info with_traceback add_note attrgetter breakpoint builtins compile "
    "copyright credits delattr dir eval exec exit gc getattr globals hasattr help id importlib license locals "
    "methodcaller os quit setattr type vars sys".split()
)
UNUSED_WORDS = (
    r"\b(type|typing|typing_extensions|enum|Enum|IntEnum|StrEnum|Flag|IntFlag|Generic|Protocol|ABC|ABCMeta|namedtuple|"
    r"NamedTuple|TypedDict|TYPE_CHECKING|abstractmethod|_wall|_WallAttr)\b|dataclass|overload|contextmanager"
)
# A package with `__getitem__` must not have these anywhere; and none of the names of methods that L26 keeps for others.
NOWHERE = r"\(type\)|Meta|metaclass="
NO_ATTRIBUTES = set(
    "items keys values pop update append clear extend insert remove reverse setdefault sort args encode decode hex "
    "fromhex format".split()
)
BARRED = (ast.AsyncFunctionDef, ast.Await, ast.Global, ast.Import, ast.TryStar, ast.AsyncFor, ast.AsyncWith)
TAKE_LISTS = {"any", "all", "sum", "min", "max", "sorted"}


def modules():
    """The name, the text and the tree of each file of the package."""
    for path in sorted(PACKAGE.glob("*.py")):
        text = path.read_text(encoding="utf-8")
        yield path.name, text, ast.parse(text)


def imported(tree):
    """The modules from which a tree imports, each with the names."""
    return [(node.module, [name.name for name in node.names]) for node in tree.body if isinstance(node, ast.ImportFrom)]


def defined(tree):
    """The names that a tree binds at module level, but for imports."""
    found = []
    for node in tree.body:
        if isinstance(node, (ast.FunctionDef, ast.ClassDef)):
            found.append(node.name)
        elif isinstance(node, ast.Assign):
            found += [target.id for target in node.targets]
    return found


class Language(unittest.TestCase):

    def test_files(self):
        for path in PACKAGE.iterdir():
            if path.name != "__pycache__":
                self.assertRegex(path.name, r"^(__init__|[a-z][a-z0-9_]*)\.py$")
        self.assertTrue((PACKAGE / "__init__.py").exists())
        self.assertLessEqual(len(list(PACKAGE.glob("*.py"))), 100)

    def test_characters_and_sizes(self):
        for name, text, tree in modules():
            lines = text.split("\n")
            self.assertLessEqual(len(lines), 400, name)
            for line in lines:
                self.assertLessEqual(len(line), 120, (name, line))
                self.assertTrue(all(" " <= sign <= "~" for sign in line), (name, line))
            for node in ast.walk(tree):
                if isinstance(node, ast.FunctionDef):
                    self.assertLessEqual(node.end_lineno - node.lineno + 1, 40, (name, node.name))

    def test_imports(self):
        texts = {name: tree for name, _, tree in modules()}
        for name, tree in texts.items():
            for node in ast.walk(tree):
                if isinstance(node, ast.ImportFrom):
                    self.assertIn(node, tree.body, name)
                    self.assertEqual([node.level] + [one.asname for one in node.names], [0] + [None] * len(node.names))
            for module, names in imported(tree):
                if module in LIBRARY:
                    self.assertLessEqual(set(names), LIBRARY[module], name)
                else:
                    package, _, file = module.partition(".")
                    self.assertEqual(package, "pointrows", name)
                    self.assertLessEqual(set(names), set(defined(texts[file + ".py"])), (name, module))

    def test_no_circles(self):
        needs = {name[:-3]: [module.partition(".")[2] for module, _ in imported(tree) if module not in LIBRARY]
                 for name, _, tree in modules()}
        done = []
        while len(done) < len(needs):
            ready = [name for name in needs if name not in done and all(other in done for other in needs[name])]
            self.assertTrue(ready, sorted(set(needs) - set(done)))
            done += ready

    def test_names_are_bound_once(self):
        for name, _, tree in modules():
            bound = defined(tree) + [one for _, names in imported(tree) for one in names]
            self.assertEqual(len(bound), len(set(bound)), name)
            taken = {node.name for node in tree.body if isinstance(node, ast.ClassDef)}
            taken |= {one for _, names in imported(tree) for one in names}
            for node in ast.walk(tree):
                if isinstance(node, ast.arg):
                    self.assertNotIn(node.arg, taken, name)
                    self.assertFalse(node.arg != "_" and node.arg in dir(builtins), (name, node.arg))
                if isinstance(node, ast.Name) and isinstance(node.ctx, ast.Store):
                    self.assertNotIn(node.id, taken, name)
                    self.assertFalse(node.id in BUILTINS, (name, node.id))

    def test_names_that_are_not_used(self):
        for name, text, tree in modules():
            self.assertIsNone(re.search(NOWHERE, text), name)
            for node in ast.walk(tree):
                told = []
                if isinstance(node, ast.Name):
                    told = [node.id]
                elif isinstance(node, (ast.FunctionDef, ast.ClassDef)):
                    told = [node.name]
                elif isinstance(node, ast.arg):
                    told = [node.arg]
                elif isinstance(node, ast.keyword):
                    told = [node.arg or "x"]
                for one in told:
                    self.assertNotIn(one, UNUSED, name)
                    self.assertRegex(one, r"^(__[a-z]+__|_|_?[A-Za-z][A-Za-z0-9_]*)$")
                    self.assertIsNone(re.search(UNUSED_WORDS, one), (name, one))
                if isinstance(node, ast.Constant) and isinstance(node.value, str) and "\n" not in node.value:
                    if " " not in node.value:
                        self.assertIsNone(re.search(UNUSED_WORDS, node.value), (name, node.value))

    def test_functions_and_variables_are_no_builtins(self):
        for name, _, tree in modules():
            methods = {id(node) for made in ast.walk(tree) if isinstance(made, ast.ClassDef) for node in made.body}
            for node in ast.walk(tree):
                if isinstance(node, (ast.FunctionDef, ast.ClassDef)) and id(node) not in methods:
                    self.assertFalse(node.name in dir(builtins), (name, node.name))
                if isinstance(node, ast.FunctionDef) and id(node) in methods:
                    self.assertNotIn(node.name, BUILTINS, name)
                # Another test may have left a `_` among the builtins.
                if isinstance(node, ast.Name) and isinstance(node.ctx, ast.Store) and node.id != "_":
                    self.assertFalse(node.id in dir(builtins), (name, node.id))

    def test_attributes_and_methods(self):
        stored, read = set(), set()
        for name, _, tree in modules():
            for made in [node for node in tree.body if isinstance(node, ast.ClassDef)]:
                own = {node.attr for node in ast.walk(made) if isinstance(node, ast.Attribute) and isinstance(node.ctx, ast.Store)}
                methods = [node.name for node in made.body if isinstance(node, ast.FunctionDef)]
                self.assertEqual(len(methods), len(set(methods)), made.name)
                self.assertFalse(own & set(methods), made.name)
                self.assertFalse(own & NO_ATTRIBUTES, made.name)
                stored |= own | set(methods)
                if "__getitem__" in methods:
                    self.assertIn("__iter__", methods)
            read |= {node.attr for node in ast.walk(tree) if isinstance(node, ast.Attribute) and isinstance(node.ctx, ast.Load)}
        self.assertFalse({"keys"} & stored)
        self.assertLessEqual(read, stored | METHODS)

    def test_comparisons_and_iterators(self):
        at_once = {"zip", "enumerate", "reversed", "range"}
        for name, _, tree in modules():
            parents = {child: node for node in ast.walk(tree) for child in ast.iter_child_nodes(node)}
            for node in ast.walk(tree):
                if isinstance(node, ast.Compare) and any(isinstance(one, (ast.Is, ast.IsNot)) for one in node.ops):
                    self.assertTrue(all(isinstance(one, ast.Constant) for one in node.comparators), (name, node.lineno))
                if isinstance(node, ast.Call) and isinstance(node.func, ast.Name) and node.func.id in at_once:
                    above = parents[node]
                    iterated = isinstance(above, (ast.For, ast.comprehension)) and above.iter is node
                    passed_on = isinstance(above, ast.Call) and isinstance(above.func, ast.Name)
                    passed_on = passed_on and above.func.id in at_once | {"list", "tuple", "sorted", "dict", "sum"}
                    self.assertTrue(iterated or passed_on, (name, node.lineno))

    def test_statements(self):
        for name, _, tree in modules():
            for node in ast.walk(tree):
                self.assertNotIsInstance(node, BARRED, name)
                if isinstance(node, ast.FunctionDef):
                    self.look_at_decorators(name, node)
                    if node.name.startswith("__"):
                        self.assertIn(node.name, DOUBLE, name)
                if isinstance(node, ast.Constant):
                    self.assertNotIsInstance(node.value, (float, complex), name)
                    if isinstance(node.value, str):
                        self.assertNotIn("%", node.value, name)
                if isinstance(node, ast.BinOp):
                    self.assertNotIsInstance(node.op, (ast.Div, ast.MatMult), name)
                    if isinstance(node.op, ast.Pow):
                        self.assertIsInstance(node.right, ast.Constant, name)

    def look_at_decorators(self, name, node):
        """Only those that the rules let."""
        for decorator in node.decorator_list:
            told = decorator.id if isinstance(decorator, ast.Name) else decorator.attr
            self.assertIn(told, ("property", "setter", "staticmethod", "classmethod"), name)

    def test_calls(self):
        own = {one for _, _, tree in modules() for one in defined(tree)}
        own |= {node.name for _, _, tree in modules() for node in ast.walk(tree) if isinstance(node, ast.FunctionDef)}
        own |= {one for names in LIBRARY.values() for one in names}
        # A parameter may be a function, or the class of a class method.
        own |= {node.arg for _, _, tree in modules() for node in ast.walk(tree) if isinstance(node, ast.arg)}
        for name, _, tree in modules():
            for node in ast.walk(tree):
                if isinstance(node, ast.Call) and isinstance(node.func, ast.Name):
                    self.assertIn(node.func.id, own | BUILTINS, name)
                    if node.func.id in TAKE_LISTS:
                        for one in node.args:
                            self.assertNotIsInstance(one, ast.GeneratorExp, (name, node.lineno))
                if isinstance(node, ast.Call) and isinstance(node.func, ast.Attribute):
                    self.assertIn(node.func.attr, own | METHODS, name)

    def test_module_level(self):
        for name, _, tree in modules():
            for at, node in enumerate(tree.body):
                docstring = at == 0 and isinstance(node, ast.Expr) and isinstance(node.value, ast.Constant)
                plain = isinstance(node, (ast.ImportFrom, ast.FunctionDef, ast.ClassDef, ast.Assign))
                self.assertTrue(docstring or plain, (name, node.lineno))
                if isinstance(node, ast.Assign):
                    ast.literal_eval(node.value)


if __name__ == "__main__":
    unittest.main()
