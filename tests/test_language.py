"""Rules of ../shared/LANGUAGE.md that can be seen in the code of each file.

A net for slips, not the whole of the rules.
"""

import ast
import builtins
import pathlib
import re
import unittest

PACKAGE = pathlib.Path(__file__).resolve().parent.parent / "deedstore"

BUILTINS = set(
    "len range enumerate zip min max sum abs sorted reversed int str bool bytes list tuple dict "
    "set isinstance ord repr any all divmod property staticmethod classmethod Exception ValueError "
    "TypeError KeyError IndexError LookupError ZeroDivisionError ArithmeticError OverflowError "
    "RuntimeError NotImplementedError NotImplemented".split()
)
BANNED_NODES = (
    ast.AsyncFunctionDef, ast.AsyncFor, ast.AsyncWith, ast.Await, ast.TryStar, ast.Global, ast.Nonlocal,
    ast.Lambda, ast.Match, ast.With, ast.Set, ast.SetComp, ast.NamedExpr, ast.JoinedStr, ast.AnnAssign,
)
BANNED_WORDS = set(
    "type typing typing_extensions enum Enum IntEnum StrEnum Flag IntFlag Generic Protocol ABC "
    "ABCMeta namedtuple NamedTuple TypedDict TYPE_CHECKING abstractmethod".split()
)
BANNED_NAMES = set(
    "register mro elements open input law version_info with_traceback add_note attrgetter breakpoint "
    "builtins compile copyright credits delattr dir eval exec exit gc getattr globals hasattr help id "
    "importlib license locals methodcaller os quit setattr super sys type vars".split()
)
BANNED_ATTRIBUTES = set(
    "items keys values pop update append clear extend insert remove reverse setdefault sort args "
    "encode decode hex fromhex format register mro elements open input law".split()
)
METHODS = set(
    "append clear copy count endswith extend find get index insert isalnum isalpha isdigit "
    "islower isspace isupper items join keys ljust lower lstrip partition pop remove replace "
    "reverse rfind rjust rpartition rsplit rstrip setdefault split splitlines startswith strip "
    "update upper values zfill bit_length".split()
)
TAKES_LISTS = ("any", "all", "min", "max", "sum", "sorted")
COPIES = ("len", "list", "dict", "sorted", "tuple", "enumerate")


def files():
    return sorted(PACKAGE.glob("**/*.py"))


def parsed():
    return [(path.name, ast.parse(path.read_text())) for path in files()]


def walked():
    """All nodes of all files, each with the name of its file."""
    return [(name, node) for name, tree in parsed() for node in ast.walk(tree)]


def classes():
    return [node for _, node in walked() if isinstance(node, ast.ClassDef)]


def methods():
    """The names of all methods, those of properties apart."""
    plain, decorated = set(), set()
    for made in classes():
        for node in made.body:
            if isinstance(node, ast.FunctionDef):
                names = [ast.unparse(part) for part in node.decorator_list]
                (decorated if "property" in names else plain).add(node.name)
    return plain, decorated


def class_values():
    return {part.targets[0].id for made in classes() for part in made.body if isinstance(part, ast.Assign)}


def stored_attributes():
    return {node.attr for _, node in walked() if isinstance(node, ast.Attribute) and isinstance(node.ctx, ast.Store)}


def has_docstring(node):
    kinds = (ast.Module, ast.ClassDef, ast.FunctionDef)
    return isinstance(node, kinds) and ast.get_docstring(node) is not None


class FileTest(unittest.TestCase):
    def test_files(self):
        """L1, L10, L14."""
        for path in PACKAGE.glob("**/*"):
            if "__pycache__" in path.parts or path.is_dir():
                continue
            self.assertRegex(path.name, r"^[a-z_0-9]+\.py$")
            text = path.read_text()
            self.assertEqual(set(re.findall(r"[^ -~\n]", text)), set(), path.name)
            lines = text.split("\n")
            self.assertLessEqual(len(lines), 399, path.name)
            for line in lines:
                self.assertLessEqual(len(line), 120, (path.name, line))

    def test_imports(self):
        """L2, L16."""
        imported = {}
        for name, tree in parsed():
            for node in ast.walk(tree):
                self.assertNotIsInstance(node, ast.Import, name)
                if isinstance(node, ast.ImportFrom):
                    self.assertIn(node, tree.body, name)
                    self.assertEqual(node.level, 0, name)
                    self.assertRegex(node.module, r"^deedstore\.[a-z]+$")
                    imported.setdefault(name, []).append(node.module[len("deedstore."):] + ".py")
                    self.assertEqual([x.asname for x in node.names if x.asname], [], name)
        for name in imported:
            self.assertNotIn(name, self.reached(imported, name))

    def reached(self, imported, name):
        found = []
        waiting = list(imported[name])
        while waiting:
            other = waiting.pop()
            if other not in found:
                found.append(other)
                waiting.extend(imported.get(other, []))
        return found

    def test_names_are_imported_from_where_they_are_defined_and_used(self):
        """L16."""
        defined = {}
        for name, tree in parsed():
            for node in tree.body:
                if isinstance(node, (ast.FunctionDef, ast.ClassDef)):
                    defined.setdefault(name, []).append(node.name)
                elif isinstance(node, ast.Assign):
                    defined.setdefault(name, []).append(node.targets[0].id)
        for name, tree in parsed():
            used = {node.id for node in ast.walk(tree) if isinstance(node, ast.Name)}
            for node in tree.body:
                if isinstance(node, ast.ImportFrom):
                    for part in node.names:
                        self.assertIn(part.name, defined[node.module[len("deedstore."):] + ".py"], name)
                        self.assertIn(part.name, used, name)

    def test_module_level(self):
        """L3, L15."""
        allowed = (ast.ImportFrom, ast.FunctionDef, ast.ClassDef, ast.Assign)
        for name, tree in parsed():
            self.assertIsNotNone(ast.get_docstring(tree), name)
            bound = []
            for node in tree.body[1:]:
                self.assertIsInstance(node, allowed, name)
                if isinstance(node, ast.ImportFrom):
                    bound += [part.name for part in node.names]
                elif isinstance(node, ast.Assign):
                    bound.append(node.targets[0].id)
                else:
                    bound.append(node.name)
            self.assertEqual(len(bound), len(set(bound)), name)

    def test_functions(self):
        """L4, L10."""
        for name, node in walked():
            if isinstance(node, ast.FunctionDef):
                self.assertLessEqual(node.end_lineno - node.lineno + 1, 40, (name, node.name))


class NodeTest(unittest.TestCase):
    def test_nodes(self):
        """L6, L7: what the package does without."""
        for name, node in walked():
            self.assertNotIsInstance(node, BANNED_NODES, (name, getattr(node, "lineno", 0)))
            if isinstance(node, ast.Constant):
                self.assertNotIsInstance(node.value, (float, bytes), name)

    def test_words_of_strings(self):
        """L17, L27."""
        for name, tree in parsed():
            docstrings = [x.body[0].value for x in ast.walk(tree) if has_docstring(x)]
            for node in ast.walk(tree):
                if isinstance(node, ast.Constant) and isinstance(node.value, str):
                    self.assertNotIn("%", node.value, (name, node.lineno))
                    if node not in docstrings:
                        self.assertEqual(set(re.findall(r"\w+", node.value)) & BANNED_WORDS, set(), name)

    def test_names(self):
        """L8, L12, L15, L17."""
        others = set(dir(builtins)) - BUILTINS
        for name, tree in parsed():
            taken = {node.name for node in tree.body if isinstance(node, ast.ClassDef)}
            for node in tree.body:
                if isinstance(node, ast.ImportFrom):
                    taken.update(part.name for part in node.names)
            taken |= BANNED_NAMES | set(dir(builtins))
            for node in ast.walk(tree):
                if isinstance(node, ast.Name) and isinstance(node.ctx, ast.Load):
                    self.assertNotIn(node.id, others | {"_"}, (name, node.lineno))
                elif isinstance(node, ast.Name):
                    self.assertNotIn(node.id, taken, (name, node.lineno))
                elif isinstance(node, ast.arg):
                    self.assertNotIn(node.arg, taken, (name, node.lineno))

    def test_is(self):
        """L20."""
        for name, node in walked():
            if isinstance(node, ast.Compare):
                for o, right in zip(node.ops, node.comparators):
                    if isinstance(o, (ast.Is, ast.IsNot)):
                        self.assertIsInstance(right, ast.Constant, (name, node.lineno))

    def test_raise(self):
        """L19."""
        for name, node in walked():
            if isinstance(node, ast.Raise) and node.exc is not None:
                self.assertIsInstance(node.exc, ast.Call, (name, node.lineno))
                self.assertIsInstance(node.exc.func, ast.Name, (name, node.lineno))

    def test_del(self):
        """L6."""
        for name, node in walked():
            if isinstance(node, ast.Delete):
                for target in node.targets:
                    self.assertIsInstance(target, ast.Subscript, (name, node.lineno))


class CallTest(unittest.TestCase):
    def calls(self):
        return [(name, node) for name, node in walked() if isinstance(node, ast.Call)]

    def test_methods_of_builtin_values(self):
        """L25."""
        own = methods()[0]
        for name, node in self.calls():
            if isinstance(node.func, ast.Attribute):
                self.assertIn(node.func.attr, METHODS | own, (name, node.lineno))
                if node.func.attr in METHODS:
                    self.assertEqual(node.keywords, [], (name, node.lineno))

    def test_what_is_called(self):
        """L3, L7."""
        for name, node in self.calls():
            self.assertIsInstance(node.func, (ast.Name, ast.Attribute), (name, node.lineno))

    def test_lists_where_a_class_has_eq(self):
        """L7."""
        for name, node in self.calls():
            if isinstance(node.func, ast.Name) and node.func.id in TAKES_LISTS:
                for arg in node.args:
                    self.assertNotIsInstance(arg, ast.GeneratorExp, (name, node.lineno))

    def test_tables_are_not_passed_on(self):
        """L15."""
        made = set()
        for _, tree in parsed():
            for node in tree.body:
                if isinstance(node, ast.Assign) and isinstance(node.value, (ast.Dict, ast.List)):
                    made.add(node.targets[0].id)
        for name, node in self.calls():
            if not isinstance(node.func, ast.Name) or node.func.id not in COPIES:
                for arg in node.args + [part.value for part in node.keywords]:
                    self.assertFalse(isinstance(arg, ast.Name) and arg.id in made, (name, node.lineno))


class ClassTest(unittest.TestCase):
    def test_methods_and_attributes(self):
        """L5, L18, L26."""
        plain, decorated = methods()
        attributes = stored_attributes()
        self.assertEqual(attributes & (plain | decorated | class_values() | BANNED_ATTRIBUTES), set())
        self.assertEqual(plain & decorated, set())
        self.assertEqual((plain | decorated) & BANNED_NAMES, set())

    def test_targets(self):
        """L18: attributes are assigned through a local name."""
        for name, node in walked():
            if isinstance(node, ast.Attribute) and isinstance(node.ctx, ast.Store):
                self.assertIsInstance(node.value, ast.Name, (name, node.lineno))

    def test_attributes_that_are_read_are_assigned(self):
        """L18."""
        plain, decorated = methods()
        known = plain | decorated | stored_attributes() | class_values() | METHODS
        for name, node in walked():
            if isinstance(node, ast.Attribute):
                self.assertIn(node.attr, known, (name, node.lineno))

    def test_init_of_base_classes(self):
        """L25, L28: `Base.__init__(self, ..)` in an __init__ alone, Base being one that the class itself names."""
        seen = []
        for made in classes():
            bases = [ast.unparse(base) for base in made.bases]
            for node in made.body:
                if isinstance(node, ast.FunctionDef):
                    for call in ast.walk(node):
                        if isinstance(call, ast.Call) and ast.unparse(call.func).endswith("__init__"):
                            self.assertEqual(node.name, "__init__", made.name)
                            self.assertIn(ast.unparse(call.func.value), bases, (made.name, call.lineno))
                            self.assertEqual(ast.unparse(call.args[0]), "self", (made.name, call.lineno))
                            seen.append((call.lineno, call.func.value.id))
        reads = [node for _, node in walked() if isinstance(node, ast.Attribute) and node.attr.startswith("__")]
        # Nowhere else is a method with such a name read off anything.
        self.assertEqual(len(reads), len(seen))
        self.assertGreater(len(seen), 5)

    def test_no_method_is_read_off_a_class(self):
        """L18."""
        names = {made.name for made in classes()}
        for name, node in walked():
            if isinstance(node, ast.Attribute) and isinstance(node.value, ast.Name) and node.value.id in names:
                self.assertEqual(node.attr, "__init__", (name, node.lineno))

    def test_generators(self):
        """L23: no other function, and no attribute, has the name of one."""
        found = set()
        names = []
        for _, node in walked():
            if isinstance(node, ast.FunctionDef):
                names.append(node.name)
                if any(isinstance(part, ast.Yield) for part in ast.walk(node)):
                    found.add(node.name)
        self.assertEqual(found, {"rows"})
        self.assertEqual([names.count(name) for name in found], [1])
        self.assertEqual(found & stored_attributes(), set())

    def test_classes_are_only_called(self):
        """L18: a class is not stored or passed on."""
        names = {made.name for made in classes()}
        for name, node in walked():
            parts = []
            if isinstance(node, ast.Call):
                if not isinstance(node.func, ast.Name) or node.func.id != "isinstance":
                    parts = node.args + [part.value for part in node.keywords]
            elif isinstance(node, (ast.Assign, ast.Return)):
                parts = [node.value]
            elif isinstance(node, (ast.List, ast.Dict)):
                parts = node.elts if isinstance(node, ast.List) else node.values
            for part in parts:
                self.assertFalse(isinstance(part, ast.Name) and part.id in names, (name, getattr(node, "lineno", 0)))


if __name__ == "__main__":
    unittest.main()
