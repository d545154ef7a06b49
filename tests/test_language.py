"""What can be counted of the rules in LANGUAGE.md, held against each file of the package."""

import ast
import builtins
import os
import re
import unittest

FOLDER = os.path.join(os.path.dirname(os.path.dirname(os.path.abspath(__file__))), "groupdeeds")
OWN_METHODS = set("leave groups steps drawing undo _take".split())
BUILTINS = set("""len range enumerate zip min max sum abs sorted reversed int str bool bytes list tuple dict set
    frozenset isinstance ord repr any all divmod getattr hasattr setattr map super ValueError TypeError KeyError
    IndexError""".split())
METHODS = set("""append clear copy count endswith extend find get index insert isalnum isalpha isdigit islower isspace
    isupper items join keys ljust lower lstrip partition pop remove replace reverse rfind rjust rpartition rsplit
    rstrip setdefault split splitlines startswith strip update upper values zfill bit_length add discard
    __init__""".split())
LIBRARY = {"heapq": "heappush heappop heapify heapreplace heappushpop",
           "math": "gcd lcm isqrt comb perm factorial",
           "itertools": "product combinations permutations chain accumulate pairwise islice zip_longest"}
WORDS = re.compile(r"\b(type|typing|enum|Enum|Generic|Protocol|ABC|namedtuple|NamedTuple|overload|dataclass)\b")
STATEMENTS = (ast.Expr, ast.Assign, ast.AugAssign, ast.If, ast.While, ast.For, ast.Return, ast.Break, ast.Continue,
              ast.Raise, ast.Delete, ast.FunctionDef, ast.ClassDef, ast.ImportFrom)


def files():
    """Return the pairs (name, text) of all files of the package."""
    found = []
    for name in sorted(os.listdir(FOLDER)):
        if name != "__pycache__":
            with open(os.path.join(FOLDER, name), encoding="utf-8", newline="") as file:
                found.append((name, file.read()))
    return found


def nodes(kind):
    """Return the pairs (file name, node) of all nodes of a kind."""
    return [(name, node) for name, text in files() for node in ast.walk(ast.parse(text)) if isinstance(node, kind)]


class Language(unittest.TestCase):
    def test_names_of_files(self):
        for name, _ in files():
            self.assertRegex(name, r"^[a-z_][a-z0-9_]*\.py$")

    def test_sizes(self):
        for name, text in files():
            self.assertLessEqual(len(text.splitlines()), 399, name)
            for line in text.splitlines():
                self.assertLessEqual(len(line), 120, f"{name}: {line}")

    def test_characters(self):
        for name, text in files():
            self.assertEqual(sorted(sign for sign in set(text) if sign != "\n" and not " " <= sign <= "~"), [], name)

    def test_functions(self):
        for name, node in nodes(ast.FunctionDef):
            self.assertLessEqual(node.end_lineno - node.lineno + 1, 40, f"{name}: {node.name}")
            self.assertEqual(node.decorator_list, [], f"{name}: {node.name}")

    def test_statements(self):
        for name, node in nodes(ast.stmt):
            self.assertIsInstance(node, STATEMENTS, f"{name}: {node.lineno}")

    def test_no_floats_and_no_signs_of_them(self):
        for name, node in nodes(ast.Constant):
            self.assertNotIsInstance(node.value, (float, complex), name)
            self.assertNotIn("%", str(node.value), name)
        self.assertEqual(nodes((ast.Div, ast.Lambda, ast.Yield, ast.YieldFrom, ast.GeneratorExp)), [])

    def test_imports(self):
        for name, node in nodes((ast.Import, ast.ImportFrom)):
            self.assertIsInstance(node, ast.ImportFrom, name)
            names = [alias.name for alias in node.names]
            self.assertEqual([alias.asname for alias in node.names], [None] * len(names), name)
            if node.module in LIBRARY:
                self.assertLessEqual(set(names), set(LIBRARY[node.module].split()), name)
            else:
                self.assertTrue(node.module.startswith("groupdeeds."), f"{name}: {node.module}")

    def test_imported_names_are_defined_there(self):
        defined = {}
        for name, text in files():
            tops = ast.parse(text).body
            defined[name] = [top.name for top in tops if isinstance(top, (ast.FunctionDef, ast.ClassDef))]
            defined[name] += [top.targets[0].id for top in tops if isinstance(top, ast.Assign)]
            self.assertEqual(len(set(defined[name])), len(defined[name]), name)
        for name, node in nodes(ast.ImportFrom):
            if node.module not in LIBRARY:
                for alias in node.names:
                    self.assertIn(alias.name, defined[node.module.split(".")[1] + ".py"], name)

    def test_every_import_is_used(self):
        for name, text in files():
            imported = [alias.name for node in ast.parse(text).body if isinstance(node, ast.ImportFrom)
                        for alias in node.names]
            used = [node.id for node in ast.walk(ast.parse(text)) if isinstance(node, ast.Name)]
            self.assertEqual([word for word in imported if word not in used], [], name)
            self.assertEqual(len(imported), len(set(imported)), name)

    def test_names(self):
        """No parameter and no variable has the name of an import of its file, a class or a builtin."""
        for name, text in files():
            tree = ast.parse(text)
            taken = [alias.name for node in tree.body if isinstance(node, ast.ImportFrom) for alias in node.names]
            taken += [node.name for node in tree.body if isinstance(node, ast.ClassDef)] + dir(builtins)
            bound = [node.arg for node in ast.walk(tree) if isinstance(node, ast.arg)]
            bound += [node.id for node in ast.walk(tree) if isinstance(node, ast.Name) and type(node.ctx) is ast.Store]
            bound += [node.name for node in ast.walk(tree) if isinstance(node, ast.FunctionDef)]
            wrong = [word for word in bound if word in taken and word not in ("_", "__init__")]
            self.assertEqual(wrong, [], name)

    def test_builtins(self):
        for name, node in nodes(ast.Name):
            # Doctests leave a `_` among the builtins.
            if node.id != "_" and hasattr(builtins, node.id):
                self.assertIn(node.id, BUILTINS, f"{name}: {node.lineno}")

    def test_methods(self):
        for name, node in nodes(ast.Call):
            if isinstance(node.func, ast.Attribute):
                self.assertIn(node.func.attr, METHODS | OWN_METHODS, f"{name}: {node.lineno}")
            words = set(word.arg for word in node.keywords)
            self.assertLessEqual(words, {"default", "key", "reverse"}, f"{name}: {node.lineno}")

    def test_words(self):
        for name, text in files():
            self.assertEqual(WORDS.findall(text), [], name)

    def test_sets_are_sorted_at_once(self):
        calls = [node for _, node in nodes(ast.Call) if isinstance(node.func, ast.Name) and node.func.id == "sorted"]
        at_once = [call.args[0].lineno for call in calls if isinstance(call.args[0], ast.SetComp)]
        self.assertEqual(len(nodes((ast.Set, ast.SetComp))), len(at_once))

    def test_docstrings(self):
        for name, text in files():
            self.assertTrue(ast.get_docstring(ast.parse(text)), name)
        for name, node in nodes((ast.FunctionDef, ast.ClassDef)):
            self.assertTrue(node.name == "__init__" or ast.get_docstring(node), f"{name}: {node.name}")


if __name__ == "__main__":
    unittest.main()
