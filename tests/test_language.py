"""The form of the package: what can be told of ../shared/LANGUAGE.md and of the interface by reading the files."""

import ast
import importlib
import inspect
import unittest
from pathlib import Path

import rootfloor

FOLDER = Path(rootfloor.__file__).resolve().parent
LIBRARY = {
    "heapq": {"heappush", "heappop", "heapify", "heapreplace", "heappushpop"},
    "math": {"gcd", "lcm", "isqrt", "comb", "perm", "factorial"},
    "itertools": {"product", "combinations", "permutations"},
}
BUILTINS = set(
    "len range enumerate zip min max sum abs sorted reversed int str bool bytes list tuple dict set isinstance ord "
    "repr any all divmod iter next map super property staticmethod classmethod NotImplemented Exception ValueError "
    "TypeError KeyError IndexError LookupError ZeroDivisionError ArithmeticError OverflowError RuntimeError "
    "NotImplementedError StopIteration".split()
)
NODES_LEFT_OUT = (
    ast.Global, ast.AsyncFunctionDef, ast.AsyncFor, ast.AsyncWith, ast.Await, ast.Div, ast.MatMult, ast.MatchClass,
    ast.MatchMapping,
)
WORDS_LEFT_OUT = {
    "register", "mro", "elements", "open", "input", "law", "version_info", "with_traceback", "add_note", "exec",
    "eval", "compile", "getattr", "setattr", "hasattr", "globals", "locals", "vars", "dir", "type", "id", "typing",
}
DOUBLE = set(
    "init eq repr str len enter exit call iter lt le gt ge ne add sub mul floordiv mod pow and or xor lshift rshift "
    "radd rsub rmul neg pos invert abs bool contains getitem setitem".split()
)
# What the interface lists: for each module its functions, and for each class its methods and properties.
FUNCTIONS = {
    "surds": {"is_slope": "value", "slope_text": "slope"},
    "carrying": {"is_kept": "field factors pair place", "carried": "field factors constant letters"},
    "sayings": {
        "is_term": "value", "is_saying": "value", "check_saying": "value", "parts_of": "saying",
        "free_variables": "saying", "used_names": "saying", "term_value": "field term values",
    },
    "texts": {"term_text": "term", "saying_text": "saying", "read_term": "text", "read_saying": "text"},
    "compiling": {
        "compiled": "field saying * names=None known=None limit=20000", "floor_machine": "field slope",
    },
    "listing": {
        "numbers": "machine * start=0", "number_at": "machine index", "count_below": "machine bound",
        "is_endless": "machine", "total": "machine", "greatest": "machine", "gaps": "machine", "least_row": "machine",
    },
    "answering": {
        "decide": "field saying * known=None", "example": "field saying * known=None",
        "against": "field saying * known=None", "reply": "field saying values * known=None",
        "alike": "field *sayings known=None", "parting": "field one other * known=None",
        "is_function": "machine name", "value_of": "machine name values",
    },
    "beats": {"beat": "field slope start many", "standing": "field slope row"},
    "papers": {"line_paper": "field factors constant", "shadow_paper": "machine name"},
    "pages": {"write_book": "book", "read_book": "text", "table": "machine * most=10"},
}
CLASSES = {
    ("surds", "Surd"): {
        "__init__": "root i j=0 * k=1", "of_slope": "root slope", "parts": "", "sign": "", "floor": "", "text": "",
        "compared": "other", "__add__": "other", "__sub__": "other", "__mul__": "other", "__neg__": "",
        "__eq__": "other", "__bool__": "", "__repr__": "", "root": None,
    },
    ("fields", "Field"): {
        "__init__": "root", "part": "index", "step": "place", "tail": "place", "base": "", "digits": "number",
        "value": "digits", "floor": "slope number", "__eq__": "other", "__repr__": "", "root": None, "period": None,
        "top": None,
    },
    ("machines", "Machine"): {
        "everything": "field *names", "nothing": "field *names", "field": None, "names": "", "rows": "", "answers": "",
        "digits_of": "index", "is_true": "values", "__contains__": "values", "holds": "**numbers", "__and__": "other",
        "__or__": "other", "__sub__": "other", "__invert__": "", "within": "other", "some": "name", "every": "name",
        "fixed": "**numbers", "renamed": "**names", "widened": "*names", "__eq__": "other", "__len__": "",
        "__bool__": "", "__repr__": "",
    },
    ("listing", "Cursor"): {
        "__init__": "machine * position=0", "place": None, "position": None, "move_to": "position",
        "forward": "many=1", "back": "many=1", "seek": "number", "twin": "", "__len__": "", "__repr__": "",
    },
    ("listing", "Reader"): {
        "__init__": "machine * position=0", "seen": "", "forward": "many=1", "twin": "", "forget": "",
    },
    ("papers", "Paper"): {"__init__": "lines", "lines": "", "told": "", "holds": ""},
    ("papers", "LinePaper"): {"__init__": "field factors constant lines", "told": "", "holds": "", "machine": ""},
    ("papers", "ShadowPaper"): {"__init__": "inner name lines", "told": "", "holds": "", "machine": ""},
    ("books", "Book"): {
        "__init__": "field * limit=12", "field": None, "limit": None, "set_limit": "value", "apply": "*commands",
        "undo": "", "redo": "", "history": "", "busy": None, "names": "", "variables": "name", "saying": "name",
        "users": "name", "machine": "name", "holds": "name *numbers", "kept": "", "computed": None, "twin": "",
        "__contains__": "name", "__len__": "", "__eq__": "other", "__repr__": "",
    },
}
# The files with what operators and properties run.
RUN_BY_OPERATORS = (
    "carrying", "errors", "fields", "kinds", "letters", "machines", "pins", "rooms", "shadows", "surds", "tables",
)


def files():
    return sorted(FOLDER.rglob("*.py"))


def trees(words=None):
    for path in files():
        if words is None or path.stem in words:
            yield path, ast.parse(path.read_text(encoding="utf-8"))


def is_docstring_of(tree):
    """The nodes of docstrings, in which words are free."""
    found = set()
    for node in ast.walk(tree):
        if isinstance(node, (ast.Module, ast.ClassDef, ast.FunctionDef)) and ast.get_docstring(node) is not None:
            found.add(node.body[0].value)
    return found


class FileTest(unittest.TestCase):
    def test_only_plain_files(self):
        for path in FOLDER.rglob("*"):
            if "__pycache__" in path.parts:
                continue
            self.assertTrue(path.is_dir() or path.suffix == ".py", path)
        self.assertTrue((FOLDER / "__init__.py").exists())

    def test_characters_and_sizes(self):
        for path in files():
            text = path.read_bytes().decode("ascii")
            self.assertTrue(all(sign == "\n" or " " <= sign <= "~" for sign in text), path)
            self.assertLessEqual(len(text.splitlines()), 399)
            self.assertTrue(all(len(line) <= 120 for line in text.splitlines()), path)

    def test_sizes_of_functions(self):
        for path, tree in trees():
            for node in ast.walk(tree):
                if isinstance(node, ast.FunctionDef):
                    self.assertLessEqual(node.end_lineno - node.lineno + 1, 40, (path, node.name))


class WordTest(unittest.TestCase):
    def test_strings(self):
        for path, tree in trees():
            for node in ast.walk(tree):
                if isinstance(node, ast.Constant) and isinstance(node.value, str):
                    self.assertNotIn("%", node.value, path)
                self.assertFalse(isinstance(node, ast.Constant) and isinstance(node.value, (float, complex)), path)

    def test_statements(self):
        for path, tree in trees():
            for node in ast.walk(tree):
                self.assertNotIsInstance(node, NODES_LEFT_OUT, path)
                if isinstance(node, ast.FunctionDef):
                    for decorator in node.decorator_list:
                        word = ast.unparse(decorator)
                        plain = word in ("property", "staticmethod", "classmethod")
                        self.assertTrue(plain or word == f"{node.name}.setter", (path, word))

    def test_names(self):
        for path, tree in trees():
            bound = {node.id for node in ast.walk(tree) if isinstance(node, ast.Name) and not is_read(node)}
            bound |= {node.arg for node in ast.walk(tree) if isinstance(node, ast.arg)}
            bound |= {node.name for node in ast.walk(tree) if isinstance(node, (ast.FunctionDef, ast.ClassDef))}
            for node in ast.walk(tree):
                if isinstance(node, ast.ImportFrom):
                    bound |= {alias.asname or alias.name for alias in node.names}
            self.assertFalse(bound & WORDS_LEFT_OUT, path)
            self.assertFalse(bound & BUILTINS, path)
            read = {node.id for node in ast.walk(tree) if isinstance(node, ast.Name) and is_read(node)}
            self.assertEqual(read - bound - BUILTINS, set(), path)
            double = {name.strip("_") for name in bound if name.startswith("__")}
            self.assertEqual(double - DOUBLE, set(), path)

    def test_words_in_strings(self):
        for path, tree in trees():
            free = is_docstring_of(tree)
            for node in ast.walk(tree):
                if isinstance(node, ast.Constant) and isinstance(node.value, str) and node not in free:
                    self.assertNotIn("__", node.value, path)


class OperatorTest(unittest.TestCase):
    """The rules of L5 for what operators and properties run, kept in whole files."""

    def test_no_sorting_in_place(self):
        for path, tree in trees():
            for node in ast.walk(tree):
                self.assertFalse(isinstance(node, ast.Attribute) and node.attr == "sort", path)

    def test_no_generator_expressions(self):
        for path, tree in trees():
            self.assertFalse(any(isinstance(node, ast.GeneratorExp) for node in ast.walk(tree)), path)

    def test_literal_steps(self):
        for path, tree in trees(RUN_BY_OPERATORS):
            for node in ast.walk(tree):
                if isinstance(node, ast.AugAssign):
                    self.assertTrue(isinstance(node.target, ast.Name) and isinstance(node.value, ast.Constant), path)

    def test_only_own_lists_are_changed(self):
        words = {"append", "extend", "insert", "pop", "remove", "clear", "setdefault", "update", "reverse", "add"}
        for path, tree in trees(RUN_BY_OPERATORS):
            for function in (node for node in ast.walk(tree) if isinstance(node, ast.FunctionDef)):
                made = made_in(function)
                for node in ast.walk(function):
                    if isinstance(node, ast.Attribute) and node.attr in words:
                        self.assertIn(ast.unparse(node.value), made, (path, function.name))
                    if isinstance(node, ast.Subscript) and not is_read(node):
                        self.assertIn(ast.unparse(node.value), made, (path, function.name))
                    if isinstance(node, ast.Attribute) and not is_read(node):
                        plain = function.name == "__init__" and ast.unparse(node.value) == "self"
                        self.assertTrue(plain, (path, function.name))


def made_in(function):
    """The variables to which a function assigns a list or a dict that it makes on the spot."""
    made = set()
    for node in ast.walk(function):
        if isinstance(node, ast.Assign) and len(node.targets) == 1 and isinstance(node.targets[0], ast.Name):
            value = node.value
            called = isinstance(value, ast.Call) and ast.unparse(value.func) in ("list", "dict", "sorted")
            if called or isinstance(value, (ast.List, ast.Dict, ast.ListComp)):
                made.add(node.targets[0].id)
    return made


class ImportTest(unittest.TestCase):
    def test_imports(self):
        for path, tree in trees():
            for node in ast.walk(tree):
                self.assertNotIsInstance(node, ast.Import, path)
                if not isinstance(node, ast.ImportFrom):
                    continue
                self.assertEqual(node.level, 0)
                names = {alias.name for alias in node.names}
                if node.module in LIBRARY:
                    self.assertLessEqual(names, LIBRARY[node.module])
                    continue
                self.assertTrue(node.module.startswith("rootfloor."), (path, node.module))
                self.assertLessEqual(names, defined_in(node.module), (path, node.module))

    def test_operators_run_only_what_they_may(self):
        # What these files import is among them, so no operator runs anything else.
        for path, tree in trees(RUN_BY_OPERATORS):
            for node in ast.walk(tree):
                if isinstance(node, ast.ImportFrom) and node.module.startswith("rootfloor."):
                    self.assertIn(node.module.split(".")[1], RUN_BY_OPERATORS, path)

    def test_no_circles(self):
        below = {}
        for path, tree in trees():
            word = "rootfloor." + path.stem
            below[word] = [node.module for node in ast.walk(tree) if isinstance(node, ast.ImportFrom)]
        while below:
            free = [word for word, needs in below.items() if not any(need in below for need in needs)]
            self.assertTrue(free, below)
            below = {word: needs for word, needs in below.items() if word not in free}


    def test_no_clock_no_randomness_no_files(self):
        # Nothing is imported but the package and single functions of the library, and no builtin reaches outside.
        for path, tree in trees():
            for node in ast.walk(tree):
                if isinstance(node, ast.ImportFrom) and not node.module.startswith("rootfloor."):
                    self.assertIn(node.module, LIBRARY, path)
                if isinstance(node, ast.Name):
                    self.assertNotIn(node.id, ("open", "input", "print", "exec", "eval", "hash", "id", "vars"), path)

    def test_stars_in_calls(self):
        # L7: behind a star stand names, attributes off a name, literals, and lists and tuples of these.
        for path, tree in trees():
            for call in (node for node in ast.walk(tree) if isinstance(node, ast.Call)):
                for item in call.args:
                    if isinstance(item, ast.Starred):
                        self.assertIsInstance(item.value, (ast.Name, ast.Attribute), (path, call.lineno))
                for keyword in call.keywords:
                    if keyword.arg is None:
                        self.assertIsInstance(keyword.value, (ast.Name, ast.Attribute), (path, call.lineno))


class InterfaceTest(unittest.TestCase):
    def test_functions(self):
        for module, names in FUNCTIONS.items():
            for name, parameters in names.items():
                self.assertIn(name, defined_in(f"rootfloor.{module}"))
                call = getattr(importlib.import_module(f"rootfloor.{module}"), name)
                self.assertEqual(parameters_of(staticmethod(call)), parameters)

    def test_methods_stand_in_their_classes(self):
        for (module, name), methods in CLASSES.items():
            self.assertIn(name, defined_in(f"rootfloor.{module}"))
            own = vars(getattr(importlib.import_module(f"rootfloor.{module}"), name))
            for method, parameters in methods.items():
                self.assertIn(method, own)
                if parameters is None:
                    self.assertIsInstance(own[method], property)
                else:
                    self.assertEqual(parameters_of(own[method]), parameters, (name, method))


def parameters_of(method):
    """The parameters without the first one of a method, as the interface writes them."""
    static = isinstance(method, staticmethod)
    found = list(inspect.signature(method.__func__ if static else method).parameters.values())
    words, starred = [], False
    for parameter in found if static else found[1:]:
        if parameter.kind == parameter.KEYWORD_ONLY and not starred:
            words.append("*")
        starred = starred or parameter.kind in (parameter.KEYWORD_ONLY, parameter.VAR_POSITIONAL)
        words.append(str(parameter))
    return " ".join(words)


def is_read(node):
    return isinstance(node.ctx, ast.Load)


def defined_in(module):
    path = FOLDER.parent / (module.replace(".", "/") + ".py")
    found = set()
    for node in ast.parse(path.read_text(encoding="utf-8")).body:
        if isinstance(node, (ast.FunctionDef, ast.ClassDef)):
            found.add(node.name)
        if isinstance(node, ast.Assign):
            found |= {target.id for target in node.targets}
    return found


if __name__ == "__main__":
    unittest.main()
