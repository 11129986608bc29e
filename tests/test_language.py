"""Rules of ../shared/LANGUAGE.md that can be seen in the code of each file.

A net for slips, not the whole of the rules.
"""

import ast
import pathlib
import re
import unittest

PACKAGE = pathlib.Path(__file__).resolve().parent.parent / "deedstore"

BUILTINS = set(
    "len range enumerate zip min max sum abs sorted reversed int str bool bytes list tuple dict "
    "set isinstance ord repr any all divmod Exception ValueError TypeError KeyError IndexError "
    "LookupError ZeroDivisionError ArithmeticError OverflowError RuntimeError "
    "NotImplementedError NotImplemented".split()
)
OTHER_BUILTINS = set(dir(__builtins__) if not isinstance(__builtins__, dict) else __builtins__)
OTHER_BUILTINS -= BUILTINS

BANNED_NODES = (
    ast.AsyncFunctionDef, ast.AsyncFor, ast.AsyncWith, ast.Await, ast.TryStar, ast.Global,
)
BANNED_WORDS = re.compile(
    r"\b(type|typing|typing_extensions|enum|Enum|Flag|Generic|Protocol|ABC|namedtuple|open|input"
    r"|register|mro|elements|law|eval|exec|compile|vars|dir|id|globals|locals)\b"
)
METHODS = set(
    "append clear copy count endswith extend find get index insert isalnum isalpha isdigit "
    "islower isspace isupper items join keys ljust lower lstrip partition pop remove replace "
    "reverse rfind rjust rpartition rsplit rstrip setdefault split splitlines startswith strip "
    "update upper values zfill bit_length".split()
)


def files():
    return sorted(PACKAGE.glob("**/*.py"))


def parsed():
    return [(path.name, ast.parse(path.read_text())) for path in files()]


class LanguageTest(unittest.TestCase):
    def test_files(self):
        """L1, L10, L14."""
        for path in PACKAGE.glob("**/*"):
            if "__pycache__" in path.parts or path.is_dir():
                continue
            self.assertRegex(path.name, r"^[a-z_0-9]+\.py$")
            text = path.read_text()
            self.assertEqual(set(re.findall(r"[^ -~\n]", text)), set(), path.name)
            lines = text.split("\n")
            self.assertLessEqual(len(lines), 399, path.name)
            for line in lines:
                self.assertLessEqual(len(line), 120, (path.name, line))

    def test_imports(self):
        """L2, L16."""
        imported = {}
        for name, tree in parsed():
            for node in ast.walk(tree):
                self.assertNotIsInstance(node, ast.Import, name)
                if isinstance(node, ast.ImportFrom):
                    self.assertIn(node, tree.body, name)
                    self.assertEqual(node.level, 0, name)
                    self.assertRegex(node.module, r"^deedstore\.[a-z]+$")
                    imported.setdefault(name, []).append(node.module[len("deedstore."):] + ".py")
                    self.assertEqual([x.asname for x in node.names if x.asname], [], name)
        for name in imported:
            self.assertNotIn(name, self.reached(imported, name))

    def reached(self, imported, name):
        found = []
        waiting = list(imported[name])
        while waiting:
            other = waiting.pop()
            if other not in found:
                found.append(other)
                waiting.extend(imported.get(other, []))
        return found

    def test_module_level(self):
        """L3."""
        allowed = (ast.ImportFrom, ast.FunctionDef, ast.ClassDef, ast.Assign)
        for name, tree in parsed():
            self.assertIsNotNone(ast.get_docstring(tree), name)
            for node in tree.body[1:]:
                self.assertIsInstance(node, allowed, name)

    def test_functions(self):
        """L4, L10."""
        for name, tree in parsed():
            for node in ast.walk(tree):
                if isinstance(node, ast.FunctionDef):
                    self.assertLessEqual(node.end_lineno - node.lineno + 1, 40, (name, node.name))

    def test_nodes_and_words(self):
        """L6, L7, L8, L17, L27."""
        for name, tree in parsed():
            docstrings = [x.body[0].value for x in ast.walk(tree) if has_docstring(x)]
            for node in ast.walk(tree):
                self.assertNotIsInstance(node, BANNED_NODES, name)
                if isinstance(node, ast.Constant) and isinstance(node.value, float):
                    self.fail((name, node.lineno))
                if isinstance(node, ast.Name):
                    self.assertNotIn(node.id, OTHER_BUILTINS, name)
                    self.assertNotRegex(node.id, BANNED_WORDS)
                if isinstance(node, ast.Constant) and node not in docstrings:
                    self.assertNotIn("%", str(node.value), (name, node.lineno))

    def test_methods_of_builtin_values(self):
        """L25."""
        trees = parsed()
        own = {x.name for _, tree in trees for x in ast.walk(tree) if isinstance(x, ast.FunctionDef)}
        for name, tree in trees:
            for node in ast.walk(tree):
                if isinstance(node, ast.Call) and isinstance(node.func, ast.Attribute):
                    self.assertIn(node.func.attr, METHODS | own, (name, node.lineno))


def has_docstring(node):
    kinds = (ast.Module, ast.ClassDef, ast.FunctionDef)
    return isinstance(node, kinds) and ast.get_docstring(node) is not None


if __name__ == "__main__":
    unittest.main()
