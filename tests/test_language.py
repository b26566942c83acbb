"""The rules of the language subset that can be told from the code alone."""

import ast
import builtins
import os
import unittest

from support import ERROR_NAMES

ROOT = os.path.dirname(os.path.dirname(os.path.abspath(__file__)))
PACKAGE = os.path.join(ROOT, "everypoint")

LIBRARY = {"math": {"gcd", "lcm", "isqrt", "comb", "perm", "factorial"}}
BUILTINS = set(
    "len range enumerate zip min max sum abs sorted reversed int str bool bytes list tuple dict set isinstance ord "
    "repr any all divmod iter getattr hasattr Exception ValueError TypeError KeyError IndexError LookupError "
    "ZeroDivisionError NotImplemented True False None property staticmethod classmethod super".split())
METHODS = set(
    "append clear copy count endswith extend find get index insert isalnum isalpha isdigit islower isspace isupper "
    "items join keys ljust lower lstrip partition pop remove replace reverse rfind rjust rpartition rsplit rstrip "
    "setdefault split splitlines startswith strip update upper values zfill bit_length".split())
BARRED_WORDS = set(
    "type typing typing_extensions enum Enum IntEnum StrEnum Flag IntFlag Generic Protocol ABC ABCMeta namedtuple "
    "NamedTuple TypedDict TYPE_CHECKING abstractmethod register mro elements open input law version_info "
    "with_traceback add_note eval exec id dir vars globals locals compile help exit quit os sys".split())
DOUBLE_UNDERSCORE_METHODS = {
    "__init__", "__eq__", "__str__", "__len__", "__iter__", "__add__", "__sub__", "__mul__", "__neg__"}
METHOD_FORMS = {
    "__iter__": r"^return iter\(self\.\w+\)$", "__len__": r"^return len\(.*\)$", "__str__": r"^return str\(.*\)$",
    "__eq__": r"^return isinstance\(other, (\w+)\) and self\.(\w+) == other\.\2$"}
BARRED_NODES = (
    ast.GeneratorExp, ast.Global, ast.AsyncFunctionDef, ast.Await, ast.Div, ast.MatMult, ast.Pow,
    ast.AnnAssign, ast.With, ast.NamedExpr, ast.Import, ast.Yield, ast.YieldFrom)
AT_ONCE = {"zip", "enumerate", "reversed", "range", "map", "filter"}
SOURCES = []
TAKERS = {"list", "tuple", "dict", "sorted", "sum", "any", "all", "enumerate", "zip", "min", "max"}


def package_files():
    for folder, folders, names in os.walk(PACKAGE):
        folders[:] = [name for name in folders if name != "__pycache__"]
        for name in names:
            yield os.path.join(folder, name)


def sources():
    if not SOURCES:
        for path in sorted(package_files()):
            with open(path, encoding="ascii", newline="") as source:
                text = source.read()
            SOURCES.append((os.path.basename(path), text, ast.parse(text)))
    return SOURCES


def bound_names(function):
    """The parameters and local variables of a function, without those of functions inside it."""
    arguments = function.args
    found = [argument.arg for argument in arguments.posonlyargs + arguments.args + arguments.kwonlyargs]
    for node in ast.walk(function):
        if isinstance(node, ast.Name) and isinstance(node.ctx, ast.Store):
            found.append(node.id)
    return found


def functions_of(tree):
    return [node for node in ast.walk(tree) if isinstance(node, ast.FunctionDef)]


def module_names(tree):
    """The imports and classes of a file, and its functions."""
    imports, classes, functions = [], [], []
    for node in tree.body:
        if isinstance(node, ast.ImportFrom):
            imports += [alias.name for alias in node.names]
        elif isinstance(node, ast.ClassDef):
            classes.append(node.name)
        elif isinstance(node, ast.FunctionDef):
            functions.append(node.name)
    return imports, classes, functions


class TestLanguage(unittest.TestCase):

    def test_files(self):
        for path in package_files():
            name = os.path.basename(path)
            self.assertRegex(name, r"^[a-z_][a-z0-9_]*\.py$")
            with open(path, "rb") as source:
                data = source.read()
            self.assertTrue(all(byte == 10 or 32 <= byte <= 126 for byte in data), name)
            self.assertTrue(data.endswith(b"\n"), name)

    def test_sizes(self):
        for name, text, tree in sources():
            lines = text.split("\n")
            self.assertLessEqual(len(lines), 399, name)
            self.assertLessEqual(max(len(line) for line in lines), 120, name)
            for function in functions_of(tree):
                self.assertLessEqual(function.end_lineno - function.lineno + 1, 40, function.name)

    def test_module_level(self):
        for name, text, tree in sources():
            behind_imports = False
            for at, node in enumerate(tree.body):
                docstring = at == 0 and isinstance(node, ast.Expr)
                self.assertTrue(docstring or isinstance(
                    node, (ast.ImportFrom, ast.FunctionDef, ast.ClassDef, ast.Assign)), name)
                if isinstance(node, ast.ImportFrom):
                    self.assertFalse(behind_imports, name)
                elif not docstring:
                    behind_imports = True
                if isinstance(node, ast.Assign):
                    self.assertEqual(len(node.targets), 1)
                    self.assertIsInstance(node.targets[0], ast.Name)
            self.assertTrue(ast.get_docstring(tree), name)

    def test_imports(self):
        imported = {}
        for name, text, tree in sources():
            imported[name] = []
            for node in ast.walk(tree):
                if isinstance(node, ast.ImportFrom):
                    self.assertEqual(node.level, 0)
                    self.assertTrue(all(alias.asname is None for alias in node.names))
                    names = {alias.name for alias in node.names}
                    if node.module in LIBRARY:
                        self.assertLessEqual(names, LIBRARY[node.module])
                    else:
                        package, module = node.module.split(".")
                        self.assertEqual(package, "everypoint")
                        imported[name].append(module + ".py")
                        self.defined_in(module + ".py", names)
        self.assertEqual(imported["__init__.py"], [])
        self.assert_no_circle(imported)

    def test_what_is_imported_is_used(self):
        for name, text, tree in sources():
            used = {node.id for node in ast.walk(tree) if isinstance(node, ast.Name)}
            self.assertLessEqual(set(module_names(tree)[0]), used, name)

    def defined_in(self, module, names):
        for name, text, tree in sources():
            if name == module:
                imports, classes, functions = module_names(tree)
                values = [node.targets[0].id for node in tree.body if isinstance(node, ast.Assign)]
                self.assertLessEqual(names, set(classes + functions + values))

    def assert_no_circle(self, imported):
        left = dict(imported)
        while left:
            free = [name for name, needed in left.items() if not any(other in left for other in needed)]
            self.assertTrue(free, left)
            for name in free:
                del left[name]

    def test_statements_and_expressions(self):
        for name, text, tree in sources():
            for node in ast.walk(tree):
                self.assertNotIsInstance(node, BARRED_NODES, f"{name}:{getattr(node, 'lineno', '')}")
                if isinstance(node, ast.Constant):
                    self.assertNotIsInstance(node.value, (float, complex))
                    if isinstance(node.value, str):
                        self.assertNotIn("%", node.value)
                if isinstance(node, ast.ClassDef):
                    self.assertEqual(node.decorator_list, [])
                    self.check_methods(node, name)
                if isinstance(node, ast.Compare):
                    self.check_identity(node)
                if isinstance(node, ast.Try):
                    self.check_handlers(node, name)
                if isinstance(node, ast.Call):
                    self.check_call(node, name)

    def test_decorators_stand_over_methods_alone(self):
        for name, text, tree in sources():
            methods = [
                part for node in tree.body if isinstance(node, ast.ClassDef) for part in node.body
                if isinstance(part, ast.FunctionDef)]
            for function in functions_of(tree):
                if function not in methods:
                    self.assertEqual(function.decorator_list, [], f"{name}: {function.name}")

    def check_methods(self, node, name):
        """The forms of decorators and of the double-underscore methods."""
        for method in [part for part in node.body if isinstance(part, ast.FunctionDef)]:
            place = f"{name}: {method.name}"
            self.assertIn(
                [ast.unparse(mark) for mark in method.decorator_list],
                [[], ["property"], ["staticmethod"], ["classmethod"]], place)
            if method.name.startswith("__"):
                self.assertIn(method.name, DOUBLE_UNDERSCORE_METHODS, place)
                self.assertEqual(method.decorator_list, [], place)
            statements = [part for part in method.body if ast.get_docstring(method) is None or part != method.body[0]]
            form = METHOD_FORMS.get(method.name)
            if form is not None:
                self.assertEqual(len(statements), 1, place)
                self.assertRegex(ast.unparse(statements[0]), form, place)

    def check_handlers(self, node, name):
        """Only own errors are caught, by their names."""
        self.assertEqual(node.finalbody, [], f"{name}:{node.lineno}")
        for handler in node.handlers:
            kinds = handler.type.elts if isinstance(handler.type, ast.Tuple) else [handler.type]
            self.assertTrue(kinds)
            for kind in kinds:
                self.assertIsInstance(kind, ast.Name)
                self.assertIn(kind.id, ERROR_NAMES, f"{name}:{node.lineno}")

    def test_iter_stands_in_its_method_alone(self):
        for name, text, tree in sources():
            calls = [
                node for node in ast.walk(tree) if isinstance(node, ast.Name) and node.id == "iter"]
            methods = [function for function in functions_of(tree) if function.name == "__iter__"]
            self.assertEqual(len(calls), len(methods), name)

    def test_words_that_stand_nowhere(self):
        for name, text, tree in sources():
            for word in ("_wall", "_WallAttr", "_enum_", "_pe_", "_dcw_"):
                self.assertNotIn(word, text, name)

    def check_identity(self, node):
        for operator, right in zip(node.ops, node.comparators):
            if isinstance(operator, (ast.Is, ast.IsNot)):
                self.assertIsInstance(right, ast.Constant)

    def check_call(self, node, name):
        for argument in node.args:
            if isinstance(argument, ast.Starred):
                self.assertIsInstance(argument.value, ast.Name, f"{name}:{node.lineno}")
        if isinstance(node.func, ast.Name) and node.func.id in ("any", "all", "sum", "min", "max", "sorted"):
            for argument in node.args:
                self.assertNotIsInstance(argument, ast.GeneratorExp)

    def test_what_is_iterated_at_once(self):
        for name, text, tree in sources():
            allowed = set()
            for node in ast.walk(tree):
                if isinstance(node, (ast.For, ast.comprehension)):
                    allowed.add(id(node.iter))
                if isinstance(node, ast.Call) and isinstance(node.func, ast.Name) and node.func.id in TAKERS:
                    allowed.update(id(argument) for argument in node.args)
            for node in ast.walk(tree):
                if isinstance(node, ast.Call) and isinstance(node.func, ast.Name) and node.func.id in AT_ONCE:
                    self.assertIn(id(node), allowed, f"{name}:{node.lineno}")

    def test_sets_are_sorted_or_measured_or_asked(self):
        for name, text, tree in sources():
            allowed = set()
            for node in ast.walk(tree):
                if isinstance(node, ast.Call) and isinstance(node.func, ast.Name) and node.func.id in ("sorted", "len"):
                    allowed.update(id(argument) for argument in node.args)
            for node in ast.walk(tree):
                made = isinstance(node, ast.Call) and isinstance(node.func, ast.Name) and node.func.id == "set"
                if made or isinstance(node, (ast.Set, ast.SetComp)):
                    self.assertIn(id(node), allowed, f"{name}:{node.lineno}")

    def test_names(self):
        for name, text, tree in sources():
            imports, classes, functions = module_names(tree)
            self.assertEqual(len(set(imports + classes + functions)), len(imports + classes + functions), name)
            taken = set(imports) | set(classes) | set(dir(builtins)) | BARRED_WORDS
            for function in functions_of(tree):
                self.assertNotIn(function.name, set(dir(builtins)) | BARRED_WORDS | set(imports))
                for bound in bound_names(function):
                    self.assertNotIn(bound, taken, f"{name}: {function.name}")
            for node in ast.walk(tree):
                if isinstance(node, ast.Name):
                    self.assertRegex(node.id, r"^(_|[A-Za-z][A-Za-z0-9_]*)$")
                    if node.id in dir(builtins):
                        self.assertIn(node.id, BUILTINS, f"{name}:{node.lineno}")

    def test_methods(self):
        own = set()
        for name, text, tree in sources():
            for node in ast.walk(tree):
                if isinstance(node, ast.ClassDef):
                    own |= {part.name for part in node.body if isinstance(part, ast.FunctionDef)}
        for name, text, tree in sources():
            for node in ast.walk(tree):
                if isinstance(node, ast.Call) and isinstance(node.func, ast.Attribute):
                    self.assertIn(node.func.attr, METHODS | own, f"{name}:{node.lineno}")

    def test_every_function_says_what_it_does(self):
        for name, text, tree in sources():
            for function in functions_of(tree):
                if function.name != "__init__":
                    self.assertTrue(ast.get_docstring(function), f"{name}: {function.name}")


if __name__ == "__main__":
    unittest.main()
