"""The form of the code: those rules of LANGUAGE.md that a look at one file, or at its imports, can tell."""

import ast
import builtins
import pathlib
import re
import unittest
import warnings

PACKAGE = pathlib.Path(__file__).resolve().parent.parent / "forestrows"
FILES = sorted(PACKAGE.rglob("*.py"))
LIBRARY = {
    "heapq": "heappush heappop heapify heapreplace heappushpop",
    "math": "gcd lcm isqrt comb perm factorial",
    "itertools": "product combinations permutations chain accumulate pairwise islice zip_longest",
    "collections": "defaultdict",
}
BUILTINS = set("""len range enumerate zip min max sum abs sorted reversed int str bool bytes list tuple dict set
frozenset isinstance ord repr any all divmod pow getattr hasattr setattr iter next map property staticmethod
classmethod super object Exception ValueError TypeError KeyError IndexError LookupError ZeroDivisionError
ArithmeticError OverflowError RuntimeError NotImplementedError AttributeError StopIteration NotImplemented""".split())
METHODS = set("""append clear copy count endswith extend find get index insert isalnum isalpha isdigit islower
isspace isupper items join keys ljust lower lstrip partition pop remove replace reverse rfind rjust rpartition
rsplit rstrip setdefault split splitlines startswith strip update upper values zfill bit_length title capitalize
swapcase casefold center expandtabs removeprefix removesuffix rindex isascii isdecimal isnumeric istitle
isidentifier isprintable translate maketrans encode decode hex fromhex to_bytes from_bytes sort format add
discard from_iterable""".split())
SIGNS = set("""init eq repr str len enter exit call iter lt le gt ge ne add sub mul floordiv mod pow and or xor
lshift rshift neg pos invert abs bool contains getitem setitem""".split())
BARRED = set("""register mro elements open input law version_info with_traceback add_note typing
typing_extensions enum Enum IntEnum StrEnum Flag IntFlag Generic Protocol ABC ABCMeta namedtuple NamedTuple
TypedDict TYPE_CHECKING abstractmethod type format_map attrgetter breakpoint builtins compile copyright credits
delattr dir eval exec exit gc globals help id importlib license locals methodcaller os quit vars sys""".split())
NOT_CAUGHT = {"Exception", "TypeError", "ArithmeticError", "OverflowError", "RuntimeError", "NotImplementedError",
              "AttributeError", "BaseException"}
NOT_USED = (ast.Global, ast.AsyncFunctionDef, ast.AsyncFor, ast.AsyncWith, ast.Await, ast.Div, ast.MatMult)


def tree_of(path):
    return ast.parse(path.read_text(encoding="utf-8"))


def nodes(kind):
    """All nodes of a kind, each with its file's name and line."""
    for path in FILES:
        for node in ast.walk(tree_of(path)):
            if isinstance(node, kind):
                yield f"{path.name}:{getattr(node, 'lineno', 0)}", node


def bound(tree):
    """The names that are bound at the top of a file, but for its imports."""
    found = []
    for node in tree.body:
        if isinstance(node, (ast.FunctionDef, ast.ClassDef)):
            found.append(node.name)
        elif isinstance(node, ast.Assign):
            found.extend(target.id for target in node.targets)
    return found


def imported(tree):
    """The pairs (module, name) that a file imports."""
    return [(node.module, alias.name) for node in tree.body if isinstance(node, ast.ImportFrom)
            for alias in node.names]


class Files(unittest.TestCase):
    def test_the_folder_contains_python_files_only(self):
        for path in PACKAGE.rglob("*"):
            if "__pycache__" not in path.parts and path.is_file():
                self.assertRegex(path.name, r"\A[a-z_][a-z0-9_]*\.py\Z")
        self.assertTrue((PACKAGE / "__init__.py").is_file())
        self.assertLessEqual(len(FILES), 100)

    def test_sizes(self):
        for path in FILES:
            lines = path.read_text(encoding="utf-8").split("\n")
            self.assertLessEqual(len(lines) - 1, 399, path.name)
            for at, line in enumerate(lines):
                self.assertLessEqual(len(line), 120, f"{path.name}:{at + 1}")
        for where, node in nodes(ast.FunctionDef):
            self.assertLessEqual(node.end_lineno - node.lineno + 1, 40, where)

    def test_characters(self):
        for path in FILES:
            self.assertEqual([sign for sign in path.read_bytes() if sign != 10 and not 32 <= sign <= 126], [])

    def test_nothing_gives_a_warning(self):
        with warnings.catch_warnings():
            warnings.simplefilter("error")
            for path in FILES:
                compile(path.read_text(encoding="utf-8"), str(path), "exec")


class Imports(unittest.TestCase):
    def test_form(self):
        for where, node in nodes((ast.Import, ast.ImportFrom)):
            self.assertIsInstance(node, ast.ImportFrom, where)
            self.assertEqual(node.level, 0, where)
        for path in FILES:
            tree = tree_of(path)
            kinds = [isinstance(node, ast.ImportFrom) for node in tree.body if not isinstance(node, ast.Expr)]
            self.assertEqual(kinds, sorted(kinds, reverse=True), path.name)

    def test_each_name_comes_from_the_file_that_defines_it(self):
        for path in FILES:
            for module, name in imported(tree_of(path)):
                if module in LIBRARY:
                    self.assertIn(name, LIBRARY[module].split(), path.name)
                elif module != "__future__":
                    self.assertRegex(module, r"\Aforestrows\.[a-z_]+\Z", path.name)
                    self.assertIn(name, bound(tree_of(PACKAGE / (module.split(".")[1] + ".py"))), path.name)

    def test_no_circles(self):
        needs = {path.stem: {module.split(".")[1] for module, _ in imported(tree_of(path)) if "." in module}
                 for path in FILES}
        while needs:
            free = [stem for stem in needs if not needs[stem] & set(needs)]
            self.assertTrue(free, needs)
            needs = {stem: needs[stem] for stem in needs if stem not in free}

    def test_one_binding_for_each_name(self):
        for path in FILES:
            tree = tree_of(path)
            names = bound(tree) + [name for _, name in imported(tree)]
            self.assertEqual(len(names), len(set(names)), path.name)
            inside = {node.id for node in ast.walk(tree)
                      if isinstance(node, ast.Name) and isinstance(node.ctx, ast.Store)}
            inside |= {node.arg for node in ast.walk(tree) if isinstance(node, ast.arg)}
            classes = {node.name for node in ast.walk(tree) if isinstance(node, ast.ClassDef)}
            self.assertEqual(inside & (classes | {name for _, name in imported(tree)}), set(), path.name)
            self.assertEqual(inside & set(dir(builtins)), set(), path.name)


class Statements(unittest.TestCase):
    def test_at_the_top_of_a_file(self):
        for path in FILES:
            for at, node in enumerate(tree_of(path).body):
                docstring = at == 0 and isinstance(node, ast.Expr) and isinstance(node.value, ast.Constant)
                plain = isinstance(node, ast.Assign) and len(node.targets) == 1
                plain = plain and not any(isinstance(one, (ast.Call, ast.comprehension)) for one in ast.walk(node))
                fine = isinstance(node, (ast.ImportFrom, ast.FunctionDef, ast.ClassDef))
                self.assertTrue(docstring or plain or fine, f"{path.name}:{node.lineno}")

    def test_what_is_not_used(self):
        self.assertEqual([where for where, _ in nodes(NOT_USED)], [])
        for where, node in nodes(ast.Constant):
            self.assertNotIsInstance(node.value, (float, complex), where)

    def test_decorators(self):
        for where, node in nodes((ast.FunctionDef, ast.ClassDef)):
            for one in node.decorator_list:
                self.assertRegex(ast.unparse(one), r"\A(property|staticmethod|classmethod|\w+\.setter)\Z", where)

    def test_errors_that_are_caught_and_raised(self):
        for where, node in nodes(ast.ExceptHandler):
            self.assertIsNotNone(node.type, where)
            self.assertEqual({one.id for one in ast.walk(node.type) if isinstance(one, ast.Name)} & NOT_CAUGHT,
                             set(), where)
        for where, node in nodes(ast.Raise):
            made = node.exc is None or (isinstance(node.exc, ast.Call) and isinstance(node.exc.func, ast.Name))
            self.assertTrue(made, where)

    def test_is_stands_beside_none_and_flags(self):
        for where, node in nodes(ast.Compare):
            for sign, right in zip(node.ops, node.comparators):
                if isinstance(sign, (ast.Is, ast.IsNot)):
                    self.assertIn(ast.unparse(right), ("None", "True", "False"), where)


class Names(unittest.TestCase):
    def test_builtins(self):
        known = set(dir(builtins))
        for where, node in nodes(ast.Name):
            if node.id in known:
                self.assertIn(node.id, BUILTINS, where)

    def test_methods(self):
        own = {node.name for _, node in nodes(ast.FunctionDef)}
        for where, node in nodes(ast.Call):
            if isinstance(node.func, ast.Attribute):
                self.assertIn(node.func.attr, own | METHODS, where)

    def test_double_underscores(self):
        for where, node in nodes(ast.FunctionDef):
            if node.name.startswith("__"):
                sign = node.name[2:-2]
                self.assertIn(sign[1:] if sign[0] in "ri" and sign[1:] in SIGNS else sign, SIGNS, where)
        for where, node in nodes((ast.Name, ast.Attribute)):
            name = node.id if isinstance(node, ast.Name) else node.attr
            self.assertFalse(name.startswith("__") and name not in ("__init__", "__class__", "__name__"), where)

    def test_barred_words(self):
        for where, node in nodes((ast.Name, ast.arg, ast.FunctionDef, ast.ClassDef, ast.alias, ast.Attribute)):
            for field in ("id", "arg", "name", "attr"):
                self.assertNotIn(getattr(node, field, None), BARRED, where)

    def test_no_name_is_a_method_and_an_attribute(self):
        methods = {one.name for _, node in nodes(ast.ClassDef) for one in node.body
                   if isinstance(one, ast.FunctionDef) and not one.decorator_list}
        stored = {node.attr for _, node in nodes(ast.Attribute) if isinstance(node.ctx, ast.Store)}
        self.assertEqual(methods & stored, set())

    def test_attributes_that_are_read_are_assigned(self):
        own = {one.name for _, node in nodes(ast.ClassDef) for one in node.body if isinstance(one, ast.FunctionDef)}
        own |= {one.targets[0].id for _, node in nodes(ast.ClassDef) for one in node.body
                if isinstance(one, ast.Assign)}
        own |= {node.attr for _, node in nodes(ast.Attribute) if isinstance(node.ctx, ast.Store)}
        for where, node in nodes(ast.Attribute):
            self.assertIn(node.attr, own | METHODS | {"__init__", "__class__", "__name__"}, where)


class Values(unittest.TestCase):
    def test_strings(self):
        for where, node in nodes(ast.Constant):
            if isinstance(node.value, str):
                self.assertNotIn(chr(37), node.value, where)
                self.assertNotRegex(node.value, r"\A__.*__\Z|\._+\Z", where)

    def test_exponents(self):
        for where, node in nodes(ast.BinOp):
            if isinstance(node.op, ast.Pow):
                # No exponent is a name here, though some could be.
                self.assertIsInstance(node.right, ast.Constant, where)
                self.assertIn(node.right.value, range(65), where)

    def test_escapes(self):
        for path in FILES:
            text = path.read_text(encoding="utf-8")
            self.assertEqual(re.findall(r"\\[^nt\\'\"x]", text), [], path.name)

    def test_views_are_iterated_on_the_spot(self):
        for where, node in nodes((ast.Assign, ast.Return)):
            if isinstance(node, ast.Return) and isinstance(node.value, ast.Call):
                called = node.value.func
                name = called.id if isinstance(called, ast.Name) else getattr(called, "attr", "")
                self.assertNotIn(name, ("zip", "enumerate", "reversed", "range", "map", "items", "keys", "values"),
                                 where)

    def test_calls_take_lists_instead_of_generator_expressions(self):
        self.assertEqual([where for where, _ in nodes(ast.GeneratorExp)], [])


class Combined(unittest.TestCase):
    """Rules for a package that makes bytes, has operators and tables, and has generators."""

    def test_no_remainders_of_what_may_be_bytes(self):
        self.assertEqual([where for where, node in nodes(ast.BinOp) if isinstance(node.op, ast.Mod)], [])

    def test_no_products_beside_objects_that_are_iterated_over(self):
        used = {name for path in FILES for _, name in imported(tree_of(path))}
        self.assertEqual(used & {"product", "combinations", "permutations"}, set())

    def test_reversed_and_sort(self):
        for where, node in nodes(ast.Call):
            if isinstance(node.func, ast.Name) and node.func.id == "reversed":
                self.assertRegex(ast.unparse(node.args[0]), r"\A(list|tuple|sorted|range)\(", where)
            self.assertNotEqual(getattr(node.func, "attr", ""), "sort", where)

    def test_tables_say_that_they_are_not_iterated_over(self):
        for where, node in nodes(ast.ClassDef):
            methods = [one.name for one in node.body if isinstance(one, ast.FunctionDef)]
            if "__getitem__" in methods:
                self.assertIn("__iter__", methods, where)

    def test_generators_are_iterated_on_the_spot(self):
        functions = [node for _, node in nodes(ast.FunctionDef)]
        makers = [one.name for one in functions if any(isinstance(node, (ast.Yield, ast.YieldFrom))
                                                       for node in ast.walk(one))]
        for name in makers:
            self.assertEqual([one.name for one in functions].count(name), 1)
            self.assertNotIn(name, METHODS)
        spots = {id(node.iter) for _, node in nodes_and_parts((ast.For, ast.comprehension))}
        for where, node in nodes_and_parts(ast.Call):
            if isinstance(node.func, ast.Name) and node.func.id in makers:
                self.assertIn(id(node), spots, where)
        called = {id(node.func) for _, node in nodes_and_parts(ast.Call)}
        for where, node in nodes_and_parts(ast.Name):
            self.assertFalse(node.id in makers and id(node) not in called, where)


TREES = {path.name: tree_of(path) for path in FILES}


def nodes_and_parts(kind):
    """All nodes of a kind, of trees that stay the same from call to call."""
    return [(f"{name}:{getattr(node, 'lineno', 0)}", node) for name, tree in TREES.items()
            for node in ast.walk(tree) if isinstance(node, kind)]


if __name__ == "__main__":
    unittest.main()
