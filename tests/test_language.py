"""The rules of LANGUAGE.md that can be read off the files of the package."""

import ast
import builtins
import re
import unittest
from pathlib import Path

PACKAGE = Path(__file__).resolve().parent.parent / "loopgrowth"
FILES = sorted(PACKAGE.rglob("*.py"))
ALLOWED_BUILTINS = set("""
len range enumerate zip min max sum abs sorted reversed int str bool bytes list tuple dict set frozenset isinstance ord
repr any all divmod map iter next super property classmethod staticmethod Exception ValueError TypeError KeyError
IndexError LookupError ZeroDivisionError ArithmeticError OverflowError RuntimeError NotImplementedError AttributeError
StopIteration NotImplemented object
""".split())
ALLOWED_METHODS = set("""
append clear copy count endswith extend find get index insert isalnum isalpha isdigit islower isspace isupper items
join keys ljust lower lstrip partition pop remove replace reverse rfind rjust rpartition rsplit rstrip setdefault split
splitlines startswith strip update upper values zfill bit_length add discard
""".split())
ALLOWED_DUNDERS = set("""
__init__ __eq__ __repr__ __str__ __len__ __enter__ __exit__ __call__ __iter__ __bool__
__add__ __radd__ __mul__ __rmul__ __pow__
__contains__ __getitem__
""".split())
STATEMENTS = (
    ast.Assign, ast.AugAssign, ast.AnnAssign, ast.If, ast.While, ast.For, ast.Return, ast.Break, ast.Continue, ast.Pass,
    ast.Raise, ast.Assert, ast.Delete, ast.Nonlocal, ast.Match, ast.With, ast.Try, ast.Expr, ast.FunctionDef,
    ast.ClassDef, ast.ImportFrom,
)
BARRED_NAMES = set("""
register mro elements open input law version_info with_traceback add_note attrgetter breakpoint compile copyright
credits delattr dir eval exec exit gc getattr globals hasattr help id importlib license locals methodcaller os quit
setattr type vars sys
""".split())
BARRED_WORDS = re.compile(r"\b(type|typing|typing_extensions|enum|Enum|IntEnum|StrEnum|Flag|IntFlag|Generic|Protocol"
                          r"|ABC|ABCMeta|namedtuple|NamedTuple|TypedDict|TYPE_CHECKING|abstractmethod)\b")
AT_ONCE = ("zip", "enumerate", "reversed", "range", "map")
VIEWS = ("items", "keys", "values")
BARRED_STARTS = ("_wall", "_pe_", "_dcw_", "_enum_", "_cm_", "_twin_re_", "_lay_", "_law_", "_stub_", "_sre")
BARRED_WHOLE = re.compile(r"(_cold|_tuplegetter|_outside|_record|_written_out|_member_names)[0-9_]*")
TAKERS = ("list", "tuple", "dict", "sorted", "sum", "any", "all", "enumerate", "zip", "bytes", "min", "max")


def parents_of(tree):
    return {child: node for node in ast.walk(tree) for child in ast.iter_child_nodes(node)}


def called(node):
    return node.func.id if isinstance(node, ast.Call) and isinstance(node.func, ast.Name) else ""


def plain_parameters(node):
    told = node.args
    return [one.arg for one in told.posonlyargs + told.args + told.kwonlyargs] + \
        [one.arg for one in (told.vararg, told.kwarg) if one]


class TestLanguage(unittest.TestCase):
    def each(self):
        for path in FILES:
            text = path.read_text()
            with self.subTest(path=str(path.relative_to(PACKAGE))):
                yield path, text, ast.parse(text)

    def test_files_hold_only_code(self):
        others = [path for path in PACKAGE.rglob("*") if path.is_file() and path.suffix != ".py"]
        self.assertEqual([path for path in others if "__pycache__" not in path.parts], [])
        for folder in {path.parent for path in FILES}:
            self.assertTrue((folder / "__init__.py").exists())
        self.assertLessEqual(len(FILES), 100)

    def test_size_and_characters(self):
        for _, text, tree in self.each():
            lines = text.splitlines()
            self.assertLessEqual(len(lines), 399)
            self.assertLessEqual(max(map(len, lines)), 120)
            self.assertTrue(all(" " <= letter <= "~" or letter == "\n" for letter in text))
            self.assertNotIn("\t", text)
            for node in ast.walk(tree):
                if isinstance(node, ast.FunctionDef):
                    self.assertLessEqual(node.end_lineno - node.lineno + 1, 40, node.name)

    def test_imports(self):
        for _, _, tree in self.each():
            for node in ast.walk(tree):
                self.assertNotIsInstance(node, ast.Import)
                if isinstance(node, ast.ImportFrom):
                    self.assertEqual(node.level, 0)
                    self.assertTrue(node.module.startswith("loopgrowth."), node.module)
                    defined = (PACKAGE.parent / (node.module.replace(".", "/") + ".py")).read_text()
                    for alias in node.names:
                        self.assertIsNone(alias.asname)
                        self.assertRegex(defined, rf"(?m)^(def {alias.name}\(|class {alias.name}\b|{alias.name} = )")

    def test_module_level_and_statements(self):
        for _, _, tree in self.each():
            for node in tree.body:
                self.assertIsInstance(node, (ast.Expr, ast.ImportFrom, ast.FunctionDef, ast.ClassDef, ast.Assign))
                if isinstance(node, ast.Assign):
                    self.assertEqual(len(node.targets), 1)
                    self.assertFalse([one for one in ast.walk(node.value) if isinstance(one, (ast.Call, ast.Lambda))])
                    inner = [one for one in ast.walk(node.value) if one is not node.value]
                    self.assertFalse([one for one in inner if isinstance(one, (ast.Dict, ast.List, ast.Set))])
                if isinstance(node, ast.Expr):
                    self.assertIsInstance(node.value.value, str)
            for node in ast.walk(tree):
                if isinstance(node, ast.stmt):
                    self.assertIsInstance(node, STATEMENTS)
                self.assertNotIsInstance(node, (ast.Div, ast.Await, ast.Set))
                if isinstance(node, ast.Try):
                    self.assertLessEqual({ast.unparse(one.type) for one in node.handlers},
                                         {"KeyError", "InvalidGraph", "InvalidRecipe"})
                    self.assertEqual(node.finalbody, [])
                if isinstance(node, ast.Constant):
                    self.assertNotIsInstance(node.value, (float, complex, bytes))
                    if isinstance(node.value, str):
                        self.assertNotIn("%", node.value)

    def test_names(self):
        for _, text, tree in self.each():
            functions = [node for node in ast.walk(tree) if isinstance(node, (ast.FunctionDef, ast.Lambda))]
            bound = {node.name for node in ast.walk(tree) if isinstance(node, (ast.FunctionDef, ast.ClassDef))}
            bound |= {one.asname or one.name for node in tree.body if isinstance(node, ast.ImportFrom)
                      for one in node.names}
            stored = {node.id for node in ast.walk(tree) if isinstance(node, ast.Name)
                      and isinstance(node.ctx, ast.Store)}
            stored |= {name for node in functions for name in plain_parameters(node)}
            module = {node.name for node in tree.body if isinstance(node, ast.ClassDef)}
            module |= {one.name for node in tree.body if isinstance(node, ast.ImportFrom) for one in node.names}
            self.assertEqual(stored & module, set())
            every_builtin = set(dir(builtins)) - {"_"}
            self.assertEqual((stored - {"__slots__"}) & every_builtin, set())
            self.assertEqual((stored | bound) & BARRED_NAMES, set())
            used = {node.id for node in ast.walk(tree) if isinstance(node, ast.Name)
                    and isinstance(node.ctx, ast.Load)}
            self.assertEqual(used - stored - bound - ALLOWED_BUILTINS, set())
            self.assertNotIn("_", used)
            for name in stored | bound:
                plain = name in ALLOWED_DUNDERS or name == "__slots__" or not name.startswith("__")
                self.assertTrue(plain and not name.startswith(BARRED_STARTS), name)
                self.assertIsNone(BARRED_WHOLE.fullmatch(name))

    def test_words(self):
        for _, text, tree in self.each():
            code = "\n".join(line.split("#")[0] for line in text.splitlines())
            docs = [node.body[0].value for node in ast.walk(tree)
                    if isinstance(node, (ast.Module, ast.ClassDef, ast.FunctionDef)) and ast.get_docstring(node)]
            lines = code.split("\n")
            for doc in docs:
                for at in range(doc.lineno - 1, doc.end_lineno):
                    lines[at] = ""
            self.assertIsNone(BARRED_WORDS.search("\n".join(lines)))
            self.assertNotIn("(type)", text)
            self.assertNotIn("Meta", text)

    def test_methods_that_are_called(self):
        own = {node.name for _, _, tree in self.each() for node in ast.walk(tree) if isinstance(node, ast.FunctionDef)}
        for _, _, tree in self.each():
            for node in ast.walk(tree):
                if isinstance(node, ast.Call) and isinstance(node.func, ast.Attribute):
                    self.assertIn(node.func.attr, own | ALLOWED_METHODS)
                if isinstance(node, ast.FunctionDef) and node.name.startswith("__"):
                    self.assertIn(node.name, ALLOWED_DUNDERS)
                if isinstance(node, ast.FunctionDef):
                    told = [one.id for one in node.decorator_list]
                    self.assertTrue(all(one in ("property", "classmethod", "staticmethod") for one in told))

    def test_iterated_at_once(self):
        for _, _, tree in self.each():
            parents = parents_of(tree)
            for node in ast.walk(tree):
                view = isinstance(node, ast.Call) and isinstance(node.func, ast.Attribute) and node.func.attr in VIEWS
                if called(node) not in AT_ONCE and not view:
                    continue
                parent = parents[node]
                loop = isinstance(parent, (ast.For, ast.comprehension)) and parent.iter is node
                self.assertTrue(loop or called(parent) in TAKERS and parent.args[0] is node, ast.unparse(node))

    def test_sets_and_generators(self):
        for _, _, tree in self.each():
            parents = parents_of(tree)
            for node in ast.walk(tree):
                if isinstance(node, ast.SetComp) or called(node) == "set":
                    self.assertIn(called(parents[node]), ("sorted", "len"), ast.unparse(node))
                if isinstance(node, ast.GeneratorExp):
                    self.assertIn(called(parents[node]), ("list", "tuple", "dict"), ast.unparse(node))
                if isinstance(node, ast.Call):
                    for one in node.args:
                        if isinstance(one, ast.Starred):
                            self.assertIsInstance(one.value, ast.Name, ast.unparse(node))
                if called(node) in ("isinstance",):
                    self.assertIsInstance(node.args[1], (ast.Name, ast.Tuple))

    def test_no_name_is_a_method_and_an_attribute(self):
        methods, properties, attributes = set(), set(), set()
        for _, _, tree in self.each():
            for node in ast.walk(tree):
                if isinstance(node, ast.ClassDef):
                    for one in node.body:
                        if isinstance(one, ast.FunctionDef):
                            told = [name.id for name in one.decorator_list]
                            (properties if "property" in told else methods).add(one.name)
                if isinstance(node, ast.Attribute) and isinstance(node.ctx, ast.Store):
                    attributes.add(node.attr)
        self.assertEqual(methods & properties, set())
        self.assertEqual(methods & attributes, set())
        self.assertEqual(properties & attributes, set())


if __name__ == "__main__":
    unittest.main()
