"""The package keeps to its small part of Python: the rules that can be read off from a file."""

import ast
import builtins
import pathlib
import re
import unittest

FOLDER = pathlib.Path(__file__).resolve().parent.parent / "recastle"
FILES = sorted(FOLDER.rglob("*.py"))

OWN_NAMES = """len range enumerate zip min max sum abs sorted reversed int str bool list tuple dict set
frozenset isinstance ord repr any all divmod Exception ValueError TypeError KeyError IndexError LookupError
ZeroDivisionError ArithmeticError OverflowError RuntimeError NotImplementedError AttributeError
StopIteration""".split()

METHODS = """append clear copy count endswith extend find get index insert isalnum isalpha isdigit islower
isspace isupper items join keys ljust lower lstrip partition pop remove replace reverse rfind rjust
rpartition rsplit rstrip setdefault split splitlines startswith strip update upper values zfill
bit_length __init__""".split()

BARRED_WORDS = """type typing typing_extensions enum Enum IntEnum StrEnum Flag IntFlag Generic Protocol ABC
ABCMeta namedtuple NamedTuple TypedDict TYPE_CHECKING abstractmethod""".split()

BARRED_NAMES = """register mro elements open input version_info with_traceback add_note attrgetter breakpoint
builtins compile copyright credits delattr dir eval exec exit gc getattr globals hasattr help id importlib
license locals methodcaller os quit setattr super vars sys chr print format format_map""".split()

BARRED_NODES = """With AsyncWith Match Delete Global Nonlocal Assert Yield YieldFrom Await AsyncFor
AsyncFunctionDef SetComp DictComp GeneratorExp NamedExpr Starred Import Div AnnAssign TryStar""".split()

METHODS_WITH_TWO = ["__init__", "__eq__", "__repr__", "__str__", "__len__"]


def tree_of(path):
    return ast.parse(path.read_text(encoding="utf-8"))


def nodes_of(path, *kinds):
    return [node for node in ast.walk(tree_of(path)) if isinstance(node, kinds)]


def module_of(path):
    return ".".join(path.relative_to(FOLDER.parent).with_suffix("").parts)


def bound_at_top(path):
    found = []
    for node in tree_of(path).body:
        if isinstance(node, (ast.FunctionDef, ast.ClassDef)):
            found.append(node.name)
        elif isinstance(node, ast.Assign):
            found.extend(target.id for target in node.targets)
        elif isinstance(node, ast.ImportFrom):
            found.extend(alias.name for alias in node.names)
    return found


class FormTest(unittest.TestCase):
    def test_the_folder_holds_plain_files_alone(self):
        for path in FOLDER.rglob("*"):
            if "__pycache__" not in path.parts:
                self.assertRegex(path.name, r"^([a-z][a-z0-9_]*|__init__|__main__)\.py$")
        self.assertIn(FOLDER / "__init__.py", FILES)

    def test_signs_and_sizes(self):
        for path in FILES:
            with self.subTest(path.name):
                text = path.read_text(encoding="utf-8")
                self.assertTrue(all(sign == "\n" or " " <= sign <= "~" for sign in text))
                self.assertLessEqual(len(text.splitlines()), 400)
                self.assertLessEqual(max(len(line) for line in text.splitlines()), 120)
                for node in nodes_of(path, ast.FunctionDef):
                    self.assertLessEqual(node.end_lineno - node.lineno + 1, 40, node.name)

    def test_barred_words(self):
        for path in FILES:
            with self.subTest(path.name):
                text = path.read_text(encoding="utf-8")
                self.assertEqual(set(re.findall(r"\w+", text)) & set(BARRED_WORDS), set())
                for word in ["dataclass", "overload", "contextmanager"]:
                    self.assertNotIn(word, text)

    def test_top_of_a_module(self):
        for path in FILES:
            with self.subTest(path.name):
                for number, node in enumerate(tree_of(path).body):
                    docstring = number == 0 and isinstance(node, ast.Expr)
                    kinds = (ast.ImportFrom, ast.FunctionDef, ast.ClassDef, ast.Assign)
                    self.assertTrue(docstring or isinstance(node, kinds), ast.dump(node))
                found = bound_at_top(path)
                self.assertEqual(len(found), len(set(found)))

    def test_imports(self):
        drawn = {}
        for path in FILES:
            with self.subTest(path.name):
                drawn[module_of(path)] = []
                for node in nodes_of(path, ast.ImportFrom):
                    source = FOLDER.parent / (node.module.replace(".", "/") + ".py")
                    self.assertEqual(node.level, 0)
                    self.assertTrue(node.module.startswith("recastle."))
                    tops = [top for top in tree_of(source).body if not isinstance(top, ast.ImportFrom)]
                    names = [getattr(top, "name", None) for top in tops]
                    names += [top.targets[0].id for top in tops if isinstance(top, ast.Assign)]
                    for alias in node.names:
                        self.assertIn(alias.name, names)
                    drawn[module_of(path)].append(node.module)
        while drawn:
            ready = [module for module in drawn if not any(other in drawn for other in drawn[module])]
            self.assertTrue(ready, "files draw from one another")
            for module in ready:
                drawn.pop(module)

    def test_statements_and_expressions(self):
        for path in FILES:
            with self.subTest(path.name):
                for node in ast.walk(tree_of(path)):
                    self.assertNotIn(node.__class__.__name__, BARRED_NODES)
                    if isinstance(node, ast.Assign):
                        self.assertEqual(len(node.targets), 1)
                        self.assertNotIsInstance(node.targets[0], (ast.Tuple, ast.List))
                    if isinstance(node, (ast.For, ast.While)):
                        self.assertEqual(node.orelse, [])
                    if isinstance(node, ast.ListComp):
                        self.assertEqual(len(node.generators), 1)
                        self.assertLessEqual(len(node.generators[0].ifs), 1)
                    if isinstance(node, ast.Constant):
                        self.assertNotIsInstance(node.value, (float, bytes, complex))

    def test_is_stands_beside_none_and_truths(self):
        for path in FILES:
            with self.subTest(path.name):
                for node in nodes_of(path, ast.Compare):
                    if any(isinstance(way, (ast.Is, ast.IsNot)) for way in node.ops):
                        sides = [node.left] + node.comparators
                        plain = [side for side in sides if isinstance(side, ast.Constant)]
                        self.assertTrue(any(side.value in (None, True, False) for side in plain))

    def test_functions(self):
        for path in FILES:
            with self.subTest(path.name):
                for node in nodes_of(path, ast.FunctionDef):
                    self.assertEqual(node.decorator_list, [])
                    rest = [node.args.vararg, node.args.kwarg] + node.args.kwonlyargs + node.args.posonlyargs
                    self.assertEqual(rest, [None, None])

    def test_classes(self):
        for path in FILES:
            with self.subTest(path.name):
                for node in nodes_of(path, ast.ClassDef):
                    self.assertLessEqual(len(node.bases), 1)
                    self.assertEqual(node.decorator_list + node.keywords, [])
                    for inner in node.body:
                        self.assertIsInstance(inner, (ast.FunctionDef, ast.Pass))

    def test_names(self):
        for path in FILES:
            with self.subTest(path.name):
                tops = bound_at_top(path)
                for node in ast.walk(tree_of(path)):
                    word = getattr(node, "id", None) or getattr(node, "arg", None)
                    if isinstance(node, (ast.FunctionDef, ast.ClassDef)):
                        word = node.name
                    if word is None or word in METHODS_WITH_TWO:
                        continue
                    self.assertRegex(word, "^[A-Za-z][A-Za-z0-9_]*$")
                    self.assertNotIn(word, BARRED_NAMES)
                    if hasattr(builtins, word) and word not in tops:
                        self.assertIn(word, OWN_NAMES)

    def test_methods(self):
        own = [node.name for path in FILES for node in nodes_of(path, ast.FunctionDef)]
        for path in FILES:
            with self.subTest(path.name):
                for node in nodes_of(path, ast.Call):
                    if isinstance(node.func, ast.Attribute):
                        self.assertIn(node.func.attr, METHODS + own)

    def test_nothing_of_pythons_own_is_given_another_meaning(self):
        for path in FILES:
            with self.subTest(path.name):
                bound = bound_at_top(path)
                bound += [node.id for node in nodes_of(path, ast.Name) if isinstance(node.ctx, ast.Store)]
                bound += [node.arg for node in nodes_of(path, ast.arg)]
                self.assertEqual([word for word in bound if hasattr(builtins, word)], [])

    def test_no_local_is_called_like_an_import_or_a_class(self):
        for path in FILES:
            with self.subTest(path.name):
                taken = [alias.name for node in nodes_of(path, ast.ImportFrom) for alias in node.names]
                taken += [node.name for node in nodes_of(path, ast.ClassDef)]
                tops = [node for node in tree_of(path).body if isinstance(node, ast.FunctionDef)]
                bound = [node.name for node in tops]
                bound += [node.arg for node in nodes_of(path, ast.arg)]
                bound += [node.id for node in nodes_of(path, ast.Name) if isinstance(node.ctx, ast.Store)]
                self.assertEqual([word for word in bound if word in taken], [])

    def test_texts_in_braces_are_plain_names(self):
        for path in FILES:
            with self.subTest(path.name):
                for node in nodes_of(path, ast.FormattedValue):
                    self.assertIsInstance(node.value, ast.Name)
                    self.assertIsNone(node.format_spec)

    def test_no_name_is_a_method_here_and_a_value_there(self):
        methods = [
            inner.name for path in FILES for node in nodes_of(path, ast.ClassDef)
            for inner in node.body if isinstance(inner, ast.FunctionDef)
        ]
        for path in FILES:
            for node in nodes_of(path, ast.Attribute):
                if isinstance(node.ctx, ast.Store):
                    self.assertNotIn(node.attr, methods)
                    self.assertNotIn(node.attr, METHODS + "sort args encode format".split())

    def test_walks_are_walked_on_the_spot(self):
        # Those that this rule names may stand behind `in`, or as the first thing in one of these.
        takers = "list tuple dict sorted sum any all enumerate zip min max".split()
        for path in FILES:
            with self.subTest(path.name):
                allowed = []
                for node in ast.walk(tree_of(path)):
                    if isinstance(node, (ast.For, ast.comprehension)):
                        allowed.append(ast.dump(node.iter, include_attributes=True))
                    if isinstance(node, ast.Call) and isinstance(node.func, ast.Name) and node.func.id in takers:
                        allowed.extend(ast.dump(inner, include_attributes=True) for inner in node.args[:1])
                for node in nodes_of(path, ast.Call):
                    word = getattr(node.func, "id", None) or getattr(node.func, "attr", None)
                    if word in "zip enumerate reversed range items keys values".split():
                        self.assertIn(ast.dump(node, include_attributes=True), allowed, f"line {node.lineno}")

    def test_sets_are_not_kept(self):
        for path in FILES:
            with self.subTest(path.name):
                allowed = []
                for node in nodes_of(path, ast.Call):
                    if isinstance(node.func, ast.Name) and node.func.id in ("sorted", "len"):
                        allowed.extend(ast.dump(inner, include_attributes=True) for inner in node.args)
                for node in nodes_of(path, ast.Call):
                    if isinstance(node.func, ast.Name) and node.func.id in ("set", "frozenset"):
                        self.assertIn(ast.dump(node, include_attributes=True), allowed)


if __name__ == "__main__":
    unittest.main()
