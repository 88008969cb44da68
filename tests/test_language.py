"""Rules of the language that a look at the files can hold."""

import ast
import builtins
import os
import unittest

PACKAGE = os.path.join(os.path.dirname(os.path.abspath(__file__)), os.pardir, "tautropes")
ALLOWED = set("""
len range enumerate zip min max sum abs sorted reversed int str bool bytes list tuple dict set frozenset isinstance ord
repr any all divmod pow Exception ValueError TypeError KeyError IndexError LookupError ZeroDivisionError
ArithmeticError OverflowError RuntimeError NotImplementedError AttributeError NotImplemented True False None
""".split())
WORDS = set("""
register mro elements open input law version_info type typing enum Enum Generic Protocol ABC namedtuple NamedTuple
TypedDict dataclass overload contextmanager abstractmethod eval exec compile globals locals vars dir id help
""".split())
METHODS = set("""
append clear copy count endswith extend find get index insert isalnum isalpha isdigit islower isspace isupper items
join keys ljust lower lstrip partition pop remove replace reverse rfind rjust rpartition rsplit rstrip setdefault
split splitlines startswith strip update upper values zfill bit_length add discard sort
""".split())


def files():
    for name in sorted(os.listdir(PACKAGE)):
        if name != "__pycache__":
            with open(os.path.join(PACKAGE, name), newline="") as file:
                yield name, file.read()


def trees():
    return [(name, ast.parse(text)) for name, text in files()]


def imported(tree):
    return [(node.module, alias.name) for node in ast.walk(tree) if isinstance(node, ast.ImportFrom)
            for alias in node.names]


def defined(tree):
    names = {node.name for node in tree.body if isinstance(node, (ast.FunctionDef, ast.ClassDef))}
    return names | {node.targets[0].id for node in tree.body if isinstance(node, ast.Assign)}


class Files(unittest.TestCase):
    def test_characters_and_sizes(self):
        for name, text in files():
            self.assertRegex(name, r"^[a-z_]+\.py$")
            self.assertTrue(all(sign == "\n" or " " <= sign <= "~" for sign in text), name)
            rows = text.split("\n")
            self.assertTrue(len(rows) <= 399 and max(len(row) for row in rows) <= 120, name)
            self.assertNotIn("\\", text.replace("\\n", ""))

    def test_only_allowed_statements_stand_there(self):
        barred = (ast.GeneratorExp, ast.Global, ast.AsyncFunctionDef, ast.Import, ast.Div, ast.Set, ast.AnnAssign)
        for name, tree in trees():
            for node in ast.walk(tree):
                self.assertNotIsInstance(node, barred, name)
                if isinstance(node, (ast.FunctionDef, ast.ClassDef)):
                    self.assertEqual(node.decorator_list, [], name)
                if isinstance(node, ast.FunctionDef):
                    self.assertTrue(node.end_lineno - node.lineno < 40, node.name)
                if isinstance(node, ast.Constant):
                    self.assertNotIsInstance(node.value, (float, complex))
                    self.assertNotIn("%", str(node.value), name)

    def test_imports_name_the_defining_file_and_never_run_in_rings(self):
        all_trees = dict(trees())
        wants = {}
        for name, tree in all_trees.items():
            for module, word in imported(tree):
                self.assertRegex(module, r"^tautropes\.[a-z]+$")
                self.assertIn(word, defined(all_trees[module.split(".")[1] + ".py"]))
            wants[name] = {module.split(".")[1] + ".py" for module, _ in imported(tree)}
        while wants:
            free = [name for name in wants if not wants[name] & set(wants)]
            self.assertTrue(free, wants)
            for name in free:
                del wants[name]


class Names(unittest.TestCase):
    def test_builtins(self):
        for name, tree in trees():
            for node in ast.walk(tree):
                if isinstance(node, ast.Name):
                    if isinstance(node.ctx, ast.Load):
                        self.assertTrue(node.id in ALLOWED or not hasattr(builtins, node.id), (name, node.id))
                    else:
                        self.assertFalse(hasattr(builtins, node.id), (name, node.id))
                if isinstance(node, ast.arg):
                    self.assertFalse(hasattr(builtins, node.arg), (name, node.arg))

    def test_no_local_name_is_a_class_or_an_import(self):
        for name, tree in trees():
            taken = {word for _, word in imported(tree)}
            taken |= {node.name for node in tree.body if isinstance(node, ast.ClassDef)}
            for node in ast.walk(tree):
                if isinstance(node, ast.arg):
                    self.assertNotIn(node.arg, taken, name)
                if isinstance(node, ast.Name) and isinstance(node.ctx, ast.Store):
                    self.assertNotIn(node.id, taken, name)

    def test_barred_words(self):
        for name, tree in trees():
            for node in ast.walk(tree):
                for field in ("id", "attr", "arg", "name"):
                    self.assertNotIn(getattr(node, field, None), WORDS, name)

    def test_methods(self):
        own = {node.name for _, tree in trees() for part in tree.body if isinstance(part, ast.ClassDef)
               for node in part.body if isinstance(node, ast.FunctionDef)}
        for name, tree in trees():
            for node in ast.walk(tree):
                if isinstance(node, ast.Call) and isinstance(node.func, ast.Attribute):
                    self.assertIn(node.func.attr, METHODS | own, name)
        self.assertFalse(own & METHODS)


if __name__ == "__main__":
    unittest.main()
