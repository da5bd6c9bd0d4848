"""The rules of ../shared/LANGUAGE.md that a look at the files can tell, some of them stricter than told there."""

import ast
import io
import pathlib
import re
import tokenize
import unittest
import warnings

PACKAGE = pathlib.Path(__file__).resolve().parent.parent / "pathfolios"
FILES = sorted(PACKAGE.glob("*.py"))

BUILTINS = set("""len range enumerate zip min max sum abs sorted reversed int str bool list tuple dict set frozenset
isinstance ord repr any all divmod pow Exception ValueError TypeError KeyError IndexError LookupError
ZeroDivisionError ArithmeticError OverflowError RuntimeError NotImplementedError StopIteration NotImplemented
iter next""".split())
ALL_BUILTINS = set(dir(__builtins__) if not isinstance(__builtins__, dict) else __builtins__)
METHODS = set("""append clear copy count endswith extend find get index insert isalnum isalpha isdigit islower isspace
isupper items join keys ljust lower lstrip partition pop remove replace reverse rfind rjust rpartition rsplit rstrip
setdefault split splitlines startswith strip update upper values zfill bit_length add discard""".split())
DUNDERS = set("""__init__ __eq__ __ne__ __repr__ __str__ __len__""".split())
NODES = (
    ast.Module, ast.Expr, ast.Constant, ast.ImportFrom, ast.alias, ast.FunctionDef, ast.ClassDef, ast.arguments,
    ast.arg, ast.Assign, ast.AugAssign, ast.Name, ast.Load, ast.Store, ast.Del, ast.Delete, ast.Return, ast.If,
    ast.For, ast.While, ast.Break, ast.Continue, ast.Pass, ast.Raise, ast.Try, ast.ExceptHandler, ast.Call,
    ast.keyword, ast.Attribute, ast.Subscript, ast.Slice, ast.Tuple, ast.List, ast.Dict, ast.ListComp, ast.DictComp,
    ast.comprehension, ast.BoolOp, ast.And, ast.Or, ast.UnaryOp, ast.Not, ast.USub, ast.BinOp, ast.Add, ast.Sub,
    ast.Mult, ast.FloorDiv, ast.Mod, ast.Compare, ast.Eq, ast.NotEq, ast.Lt, ast.LtE, ast.Gt, ast.GtE, ast.Is,
    ast.IsNot, ast.In, ast.NotIn, ast.IfExp, ast.JoinedStr, ast.FormattedValue, ast.Starred, ast.Lambda,
)
NEVER = set("""register mro elements open input law version_info with_traceback add_note""".split())
NO_NAMES = set("""attrgetter breakpoint builtins compile copyright credits delattr dir eval exec exit gc getattr
globals hasattr help id importlib license locals methodcaller os quit setattr super type vars sys __name__""".split())
NO_WORDS = set("""type typing typing_extensions enum Enum IntEnum StrEnum Flag IntFlag Generic Protocol ABC ABCMeta
namedtuple NamedTuple TypedDict TYPE_CHECKING abstractmethod""".split())
NO_ATTRIBUTES = set("""items keys values pop update append clear extend insert remove reverse setdefault sort args
encode decode hex fromhex format format_map mro""".split())
NO_FILES = set("test tests testing site conftest sitecustomize usercustomize".split()) | ALL_BUILTINS


def parsed(path):
    with warnings.catch_warnings():
        warnings.simplefilter("error")
        return ast.parse(path.read_text(encoding="utf-8"))


TREES = {path: parsed(path) for path in FILES}


def walk(kind):
    for path, tree in TREES.items():
        for node in ast.walk(tree):
            if isinstance(node, kind):
                yield path.name + ":" + str(getattr(node, "lineno", 0)), path, node


def docstrings(tree):
    told = []
    for node in ast.walk(tree):
        if isinstance(node, (ast.Module, ast.ClassDef, ast.FunctionDef)) and node.body:
            first = node.body[0]
            if isinstance(first, ast.Expr) and isinstance(first.value, ast.Constant):
                told.append(first.value)
    return told


def bound_in(function):
    """All names that a function binds."""
    told = [arg.arg for node in ast.walk(function) if isinstance(node, ast.arguments)
            for arg in node.posonlyargs + node.args + node.kwonlyargs]
    told += [node.id for node in ast.walk(function) if isinstance(node, ast.Name) and isinstance(node.ctx, ast.Store)]
    told += [node.name for node in ast.walk(function) if isinstance(node, ast.FunctionDef) and node is not function]
    return told


class Files(unittest.TestCase):
    def test_names(self):
        self.assertIn("__init__.py", [path.name for path in FILES])
        self.assertLessEqual(len(FILES), 100)
        for path in PACKAGE.iterdir():
            if path.name != "__pycache__":
                self.assertRegex(path.name, r"\A[a-z][a-z0-9_]*\.py\Z|\A__(init|main)__\.py\Z")
                self.assertNotIn(path.stem, NO_FILES | NO_WORDS)

    def test_signs_and_sizes(self):
        for path in FILES:
            text = path.read_bytes().decode("ascii")
            self.assertIsNone(re.search(r"[^ -~\n]", text), path)
            self.assertNotIn("_wall", text)
            lines = text.split("\n")
            self.assertLessEqual(len(lines), 399, path)
            for line in lines:
                self.assertLessEqual(len(line), 120, path)

    def test_functions_are_small(self):
        for where, _, node in walk(ast.FunctionDef):
            self.assertLessEqual(node.end_lineno - node.lineno + 1, 40, where)
            self.assertEqual(node.decorator_list, [], where)

    def test_files_and_functions_say_what_they_do(self):
        for path, tree in TREES.items():
            self.assertTrue(ast.get_docstring(tree), path)
        for where, _, node in walk((ast.ClassDef, ast.FunctionDef)):
            if not node.name.startswith("__"):
                self.assertTrue(ast.get_docstring(node), where)


class Statements(unittest.TestCase):
    def test_only_plain_nodes(self):
        for where, _, node in walk(ast.AST):
            self.assertIsInstance(node, NODES, where)

    def test_imports(self):
        for path, tree in TREES.items():
            body = tree.body[1:]
            imports = [node for node in body if isinstance(node, ast.ImportFrom)]
            self.assertEqual(body[:len(imports)], imports, path)
            for node in imports:
                self.assertEqual(node.level, 0, path)
                self.assertRegex(node.module, r"\Apathfolios\.[a-z0-9_]+\Z", path)
                held = TREES[PACKAGE / (node.module.partition(".")[2] + ".py")]
                defined = [part.name for part in held.body if isinstance(part, (ast.FunctionDef, ast.ClassDef))]
                defined += [part.targets[0].id for part in held.body if isinstance(part, ast.Assign)]
                for alias in node.names:
                    self.assertIsNone(alias.asname, path)
                    self.assertIn(alias.name, defined, path)

    def test_imports_are_used(self):
        for path, tree in TREES.items():
            used = [node.id for node in ast.walk(tree) if isinstance(node, ast.Name)]
            for node in tree.body:
                if isinstance(node, ast.ImportFrom):
                    for alias in node.names:
                        self.assertIn(alias.name, used, path)

    def test_no_circles(self):
        needs = {path.stem: [node.module.partition(".")[2] for node in tree.body if isinstance(node, ast.ImportFrom)]
                 for path, tree in TREES.items()}
        while needs:
            free = [name for name, others in needs.items() if not [other for other in others if other in needs]]
            self.assertTrue(free, needs)
            needs = {name: others for name, others in needs.items() if name not in free}

    def test_module_level(self):
        for path, tree in TREES.items():
            functions = []
            names = []
            for node in tree.body:
                if isinstance(node, (ast.FunctionDef, ast.ClassDef)):
                    functions.append(node.name)
                    names.append(node.name)
                elif isinstance(node, ast.ImportFrom):
                    names += [alias.name for alias in node.names]
                elif isinstance(node, ast.Assign):
                    self.assertEqual(len(node.targets), 1, path)
                    self.assertIsInstance(node.targets[0], ast.Name, path)
                    names.append(node.targets[0].id)
                    for part in ast.walk(node.value):
                        self.assertIsInstance(part, (ast.Constant, ast.Tuple, ast.List, ast.Dict, ast.Load, ast.Name,
                                                     ast.UnaryOp, ast.USub), path)
                        if isinstance(part, ast.Name):
                            self.assertIn(part.id, functions, path)
                else:
                    self.assertIs(node, tree.body[0], path)
                    self.assertIsInstance(node.value.value, str, path)
            self.assertEqual(sorted(set(names)), sorted(names), path)

    def test_tables_are_only_read(self):
        for path, tree in TREES.items():
            tables = [node.targets[0].id for node in tree.body
                      if isinstance(node, ast.Assign) and isinstance(node.value, (ast.Dict, ast.List))]
            for other in TREES.values():
                for node in ast.walk(other):
                    for part in ast.iter_child_nodes(node):
                        if isinstance(part, ast.Name) and part.id in tables and isinstance(part.ctx, ast.Load):
                            self.assertIsInstance(node, (ast.Subscript, ast.Attribute, ast.Compare), path)

    def test_errors_are_raised_on_the_spot(self):
        for where, _, node in walk(ast.Raise):
            self.assertTrue(node.exc is None or isinstance(node.exc, ast.Call), where)
            if node.exc is not None:
                self.assertIsInstance(node.exc.func, ast.Name, where)

    def test_only_own_errors_are_caught(self):
        own = [node.name for node in TREES[PACKAGE / "errors.py"].body if isinstance(node, ast.ClassDef)]
        for where, _, node in walk(ast.ExceptHandler):
            self.assertIsInstance(node.type, (ast.Name, ast.Tuple), where)
            for part in node.type.elts if isinstance(node.type, ast.Tuple) else [node.type]:
                self.assertIn(part.id, own, where)
            self.assertIsNone(node.name, where)

    def test_what_is_iterated_on_the_spot(self):
        takers = ("list", "tuple", "dict", "sorted", "sum", "any", "all", "enumerate", "zip")
        for path, tree in TREES.items():
            fine = [node.iter for node in ast.walk(tree) if isinstance(node, (ast.For, ast.comprehension))]
            for node in ast.walk(tree):
                if isinstance(node, ast.Call) and isinstance(node.func, ast.Name) and node.func.id in takers:
                    fine += node.args[:1]
                if isinstance(node, ast.Call) and isinstance(node.func, ast.Name) and node.func.id == "len":
                    fine += [part for part in node.args if getattr(getattr(part, "func", None), "id", "") == "range"]
            for node in ast.walk(tree):
                if isinstance(node, ast.Call):
                    name = getattr(node.func, "id", getattr(node.func, "attr", ""))
                    if name in ("zip", "enumerate", "reversed", "range", "items", "keys", "values"):
                        self.assertIn(node, fine, path.name + ":" + str(node.lineno))

    def test_sets_are_only_sorted_and_counted(self):
        for path, tree in TREES.items():
            fine = []
            for node in ast.walk(tree):
                if isinstance(node, ast.Call) and isinstance(node.func, ast.Name) and node.func.id in ("sorted", "len"):
                    part = node.args[0]
                    fine += [part] + ([part.left, part.right] if isinstance(part, ast.BinOp) else [])
            for node in ast.walk(tree):
                if isinstance(node, ast.Call) and isinstance(node.func, ast.Name) and node.func.id == "set":
                    self.assertIn(node, fine, path.name + ":" + str(node.lineno))

    def test_keys_of_sorting_are_lambdas_of_one_parameter(self):
        lambdas = []
        for where, _, node in walk(ast.Call):
            for keyword in node.keywords:
                if keyword.arg == "key":
                    self.assertIsInstance(keyword.value, ast.Lambda, where)
                    self.assertEqual(len(keyword.value.args.args), 1, where)
                    lambdas.append(keyword.value)
        for where, _, node in walk(ast.Lambda):
            self.assertIn(node, lambdas, where)


class Names(unittest.TestCase):
    def test_builtins(self):
        for where, _, node in walk(ast.Name):
            if node.id in ALL_BUILTINS:
                self.assertIn(node.id, BUILTINS, where)
                self.assertIsInstance(node.ctx, ast.Load, where)

    def test_no_name_is_a_builtin_or_begins_with_two_underscores(self):
        for where, _, node in walk((ast.FunctionDef, ast.ClassDef)):
            if node.name.startswith("__"):
                self.assertIn(node.name, DUNDERS, where)
            self.assertNotIn(node.name, ALL_BUILTINS | NEVER | NO_NAMES, where)
        for where, _, node in walk(ast.FunctionDef):
            for name in bound_in(node):
                self.assertNotIn(name, ALL_BUILTINS | NEVER | NO_NAMES, where)
                self.assertFalse(name.startswith("__"), where)

    def test_no_local_name_is_a_class_or_an_import_or_a_function(self):
        for path, tree in TREES.items():
            names = [alias.name for node in tree.body if isinstance(node, ast.ImportFrom) for alias in node.names]
            names += [node.name for node in tree.body if isinstance(node, (ast.ClassDef, ast.FunctionDef))]
            for node in ast.walk(tree):
                if isinstance(node, ast.FunctionDef):
                    for name in bound_in(node):
                        self.assertNotIn(name, names, path)

    def test_methods_and_attributes(self):
        own = set([node.name for _, _, node in walk(ast.FunctionDef)])
        stored = set([node.attr for _, _, node in walk(ast.Attribute) if isinstance(node.ctx, ast.Store)])
        for where, _, node in walk(ast.Call):
            if isinstance(node.func, ast.Attribute):
                self.assertIn(node.func.attr, METHODS | own, where)
        for where, _, node in walk(ast.Attribute):
            self.assertIn(node.attr, METHODS | own | stored, where)
            self.assertFalse(node.attr.startswith("__") and node.attr != "__init__", where)
        self.assertEqual(stored & (NO_ATTRIBUTES | NEVER), set())

    def test_underscore_is_never_read(self):
        for where, _, node in walk(ast.Name):
            if node.id == "_":
                self.assertIsInstance(node.ctx, ast.Store, where)

    def test_keywords_of_builtins(self):
        allowed = {"sorted": {"key", "reverse"}, "min": {"key", "default"}, "max": {"key", "default"},
                   "sum": {"start"}, "enumerate": {"start"}, "zip": {"strict"}}
        for where, _, node in walk(ast.Call):
            if isinstance(node.func, ast.Name) and node.func.id in ALL_BUILTINS:
                for keyword in node.keywords:
                    self.assertIn(keyword.arg, allowed.get(node.func.id, ()), where)


class Values(unittest.TestCase):
    def test_constants(self):
        for where, path, node in walk(ast.Constant):
            self.assertIn(type(node.value), (int, str, bool, type(None)), where)
            if isinstance(node.value, str):
                self.assertNotIn("%", node.value, where)
                self.assertFalse(node.value.endswith(("._", ".__")), where)
                self.assertFalse(node.value.startswith("__") and node.value.endswith("__"), where)

    def test_words_that_stand_nowhere(self):
        for path, tree in TREES.items():
            lines = [(node.lineno, node.end_lineno) for node in docstrings(tree)]
            text = path.read_text(encoding="utf-8")
            for token in tokenize.generate_tokens(io.StringIO(text).readline):
                if token.type == tokenize.COMMENT or (token.start[0], token.end[0]) in lines:
                    continue
                for word in re.findall(r"\w+", token.string):
                    self.assertNotIn(word, NO_WORDS, path)
                    self.assertNotIn(word, NEVER, path)
                    self.assertIsNone(re.search("dataclass|overload|contextmanager", word), path)

    def test_escapes(self):
        for path in FILES:
            text = path.read_text(encoding="utf-8")
            for token in tokenize.generate_tokens(io.StringIO(text).readline):
                if token.type == tokenize.STRING:
                    self.assertIsNone(re.search(r"\\[^nt\\'\"]", token.string.replace("\\\\", "")), path)

    def test_is(self):
        for where, _, node in walk(ast.Compare):
            for sign, other in zip(node.ops, node.comparators):
                if isinstance(sign, (ast.Is, ast.IsNot)):
                    self.assertIsInstance(other, ast.Constant, where)
                    self.assertIn(other.value, (None, True, False), where)


if __name__ == "__main__":
    unittest.main()
