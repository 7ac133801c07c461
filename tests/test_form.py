"""The form of the program: the names of its interface, and what can be seen of the language's rules.

The rules themselves are in ../shared/LANGUAGE.md; this test holds only those that are plain to see.
"""

import ast
import builtins
import importlib
import inspect
import pathlib
import re

from tests.base import Case

FOLDER = pathlib.Path(__file__).resolve().parent.parent / "plugtree"
FILES = sorted(FOLDER.glob("*.py"))

# What the interface lists, file by file: the parameters of functions, None for classes.
INTERFACE = {
    "errors": dict.fromkeys((
        "BusError", "BadNumber", "BadPacket", "BadPlan", "BadRequest", "BadName", "Taken", "TooDeep", "Full",
        "NoRoom", "Halted", "Missing", "NoThing", "NoEnd", "NoPort", "NoTransfer",
    )),
    "bits": {
        "bits_of": ["number", "many"], "number_of": ["row"], "sum5": ["number"], "sum16": ["data"],
        "turned_about": ["number", "many"],
    },
    "packets": {"packet_bytes": ["packet"], "read_packet": ["row"]},
    "plans": {
        "need_plan": ["plan"], "device_row": ["plan"], "settings_row": ["plan"], "read_plan": ["device", "settings"],
    },
    "requests": {"request_bytes": ["request"], "read_request": ["row"], "asks": ["request"]},
    "halves": {
        "out_half": [], "in_half": [], "cut": ["data", "size"], "heard": ["half", "mark", "data"], "asked": ["half"],
        "went": ["half"], "cleared": ["half"],
    },
    "things": {"Thing": None},
    "room": {
        "cost": ["size"], "bare_table": [], "phase_for": ["table", "size", "every"],
        "with_end": ["table", "size", "every", "phase", "sign=1"], "let_in": ["table", "ends"],
    },
    "journal": {"first_wrong": ["rows"]},
    "bus": {"Bus": None},
}
# The methods that the interface lists for a class, with what they take.
METHODS = {
    ("things", "Thing"): {
        "__init__": ["plan"], "restart": [], "hear_setup": ["data"], "hear_in": ["endpoint"], "hear_went": ["endpoint"],
        "hear_out": ["endpoint", "mark", "data"], "half": ["endpoint", "way"], "load": ["endpoint", "data"],
        "let": ["endpoint", "many"], "stall": ["endpoint", "way"], "twin": [],
    },
    ("bus", "Bus"): {
        "__init__": [], "__eq__": ["other"], "__len__": [], "__repr__": [],
        "plug": ["name", "plan", "hub=''", "port=1"], "pull": ["name"], "load": ["name", "endpoint", "data"],
        "let": ["name", "endpoint", "many=1"], "stall": ["name", "endpoint", "way='in'"], "came": ["name", "endpoint"],
        "number_of": ["name"], "plan_of": ["number"], "seen": [], "room": [], "send": ["number", "endpoint", "data"],
        "fetch": ["number", "endpoint", "most=200"], "unstall": ["number", "endpoint", "way='in'"],
        "call_off": ["transfer"], "told": ["transfer"], "reset": ["number"], "run": ["frames=1", "fates=None"],
        "now": [], "journal": [], "spoken": [], "twin": [],
    },
}

# L8.
BUILTINS = set((
    "len range enumerate zip min max sum abs sorted reversed int str bool bytes list tuple dict set frozenset"
    " isinstance ord repr any all divmod pow getattr hasattr setattr iter next map super property staticmethod"
    " classmethod object Exception ValueError TypeError KeyError IndexError LookupError ZeroDivisionError"
    " ArithmeticError OverflowError RuntimeError NotImplementedError AttributeError StopIteration NotImplemented"
).split())

# L7 (bytes, for the present), L17.
BARRED = set("bytes to_bytes fromhex bytearray memoryview register mro elements open input law with_traceback".split())
WORDS = re.compile(
    r"\b(type|typing|typing_extensions|enum|Enum|IntEnum|StrEnum|Flag|IntFlag|Generic|Protocol|ABC|ABCMeta"
    r"|namedtuple|NamedTuple|TypedDict|TYPE_CHECKING|abstractmethod)\b|dataclass|overload|contextmanager"
)

NOT_ALLOWED = (
    ast.Global, ast.AsyncFunctionDef, ast.AsyncFor, ast.AsyncWith, ast.Await, ast.Import, ast.ImportFrom, ast.Div,
)


def tree_of(file):
    return ast.parse(file.read_text("utf-8"))


def is_docstring(node):
    return isinstance(node, ast.Expr) and isinstance(node.value, ast.Constant) and isinstance(node.value.value, str)


def names_of(node):
    """The names that a piece of code gives or reads."""
    if isinstance(node, ast.Name):
        return [node.id]
    if isinstance(node, ast.Attribute):
        return [node.attr]
    if isinstance(node, (ast.arg, ast.keyword)):
        return [node.arg]
    if isinstance(node, (ast.FunctionDef, ast.ClassDef)):
        return [node.name]
    return []


class Interface(Case):
    def test_names_and_arguments(self):
        for module, listed in INTERFACE.items():
            there = importlib.import_module("plugtree." + module)
            for name, arguments in listed.items():
                what = getattr(there, name)
                self.assertEqual("plugtree." + module, what.__module__)
                if arguments is None:
                    self.assertTrue(inspect.isclass(what), name)
                else:
                    self.takes(arguments, list(inspect.signature(what).parameters.values()))

    def takes(self, arguments, found):
        """Arguments with their defaults, each of which may be handed in by its name."""
        self.assertEqual(arguments, [str(one) for one in found])
        self.assertLessEqual({one.kind for one in found}, {inspect.Parameter.POSITIONAL_OR_KEYWORD})

    def test_methods(self):
        for (module, name), listed in METHODS.items():
            there = getattr(importlib.import_module("plugtree." + module), name)
            for method, arguments in listed.items():
                # In the class itself.
                what = vars(there)[method]
                self.takes(["self"] + arguments, list(inspect.signature(what).parameters.values()))

    def test_fields(self):
        thing = importlib.import_module("plugtree.things").Thing((0, 0, 0, ()))
        self.assertLessEqual({"number", "level"}, set(vars(thing)))

    def test_each_is_defined_in_its_file(self):
        for module, listed in INTERFACE.items():
            defined = [node.name for node in tree_of(FOLDER / (module + ".py")).body
                       if isinstance(node, (ast.FunctionDef, ast.ClassDef))]
            for name in listed:
                self.assertEqual(1, defined.count(name), name)


class Rules(Case):
    def test_the_folder_holds_nothing_but_files_of_the_program(self):
        names = [path.name for path in FOLDER.iterdir() if path.name != "__pycache__"]
        self.assertIn("__init__.py", names)
        for name in names:
            self.assertRegex(name, r"\A(__init__|[a-z][a-z0-9_]*)\.py\Z")

    def test_characters_and_sizes(self):
        for file in FILES:
            text = file.read_text("utf-8")
            lines = text.split("\n")
            self.assertEqual([], [one for one in text if not (" " <= one <= "~" or one == "\n")], file)
            self.assertLessEqual(len(lines), 400, file)
            self.assertEqual([], [line for line in lines if len(line) > 120], file)
            for node in ast.walk(tree_of(file)):
                if isinstance(node, ast.FunctionDef):
                    self.assertLessEqual(node.end_lineno - node.lineno + 1, 40, (file, node.name))

    def test_module_level(self):
        allowed = (ast.FunctionDef, ast.ClassDef, ast.ImportFrom, ast.Assign)
        for file in FILES:
            bound = []
            for node in tree_of(file).body:
                self.assertTrue(is_docstring(node) or isinstance(node, allowed), (file, node.lineno))
                if isinstance(node, ast.Assign):
                    bound += [target.id for target in node.targets]
                elif isinstance(node, ast.ImportFrom):
                    bound += [one.asname or one.name for one in node.names]
                elif not is_docstring(node):
                    bound.append(node.name)
            self.assertEqual(len(set(bound)), len(bound), file)

    def test_imports(self):
        outside = ("heapq", "math", "itertools", "collections")
        for file in FILES:
            for node in tree_of(file).body:
                if isinstance(node, ast.ImportFrom):
                    self.assertEqual(0, node.level, file)
                    self.assertTrue(node.module.startswith("plugtree.") or node.module in outside, file)
                    if node.module.startswith("plugtree."):
                        source = FOLDER / (node.module.split(".")[1] + ".py")
                        top = [one for part in tree_of(source).body for one in names_of(part)]
                        top += [one.id for part in tree_of(source).body if isinstance(part, ast.Assign)
                                for one in part.targets]
                        self.assertEqual([], [one.name for one in node.names if one.name not in top], file)

    def test_statements(self):
        for file in FILES:
            tree = tree_of(file)
            for node in ast.walk(tree):
                if node not in tree.body:
                    self.assertNotIsInstance(node, NOT_ALLOWED, (file, getattr(node, "lineno", 0)))
                if isinstance(node, ast.Raise) and node.exc is not None:
                    self.assertIsInstance(node.exc, ast.Call, (file, node.lineno))

    def test_names(self):
        theirs = set(dir(builtins))
        for file in FILES:
            for node in ast.walk(tree_of(file)):
                for name in names_of(node):
                    self.assertNotIn(name, BARRED, file)
                    if isinstance(node, ast.Name) and name in theirs:
                        self.assertIn(name, BUILTINS, file)
                        self.assertIsInstance(node.ctx, ast.Load, file)
                    if isinstance(node, ast.arg):
                        self.assertNotIn(name, theirs, file)

    def test_names_of_methods_and_attributes(self):
        """L18, L26: nothing is both a method and an attribute, and none has a name that plain values have."""
        methods, attributes = set(), set()
        for file in FILES:
            for node in ast.walk(tree_of(file)):
                if isinstance(node, ast.ClassDef):
                    names = [one.name for one in node.body if isinstance(one, ast.FunctionDef)]
                    self.assertEqual(len(set(names)), len(names), node.name)
                    methods |= {name for name in names if not name.startswith("__")}
                if isinstance(node, ast.Attribute) and isinstance(node.ctx, ast.Store):
                    attributes.add(node.attr)
        self.assertEqual(set(), methods & attributes)
        for plain in (str, int, bytes, list, dict, set, tuple):
            self.assertEqual(set(), (methods | attributes) & set(dir(plain)))

    def test_no_name_is_bound_anew(self):
        """L15: no variable or parameter has the name of a class or an import of its file."""
        for file in FILES:
            tree = tree_of(file)
            theirs = {node.name for node in tree.body if isinstance(node, (ast.ClassDef, ast.FunctionDef))}
            theirs |= {one.name for node in tree.body if isinstance(node, ast.ImportFrom) for one in node.names}
            for node in ast.walk(tree):
                if isinstance(node, ast.arg):
                    self.assertNotIn(node.arg, theirs, file)
                if isinstance(node, ast.Name) and isinstance(node.ctx, ast.Store):
                    self.assertNotIn(node.id, theirs, file)

    def test_no_two_files_import_from_each_other(self):
        """L16."""
        left = {file.stem: {node.module.split(".")[1] for node in tree_of(file).body
                            if isinstance(node, ast.ImportFrom) and node.module.startswith("plugtree.")}
                for file in FILES}
        while left:
            free = [name for name in left if not left[name] & set(left)]
            self.assertTrue(free, left)
            for name in free:
                del left[name]

    def test_no_generators(self):
        """L7, where a class has its own ==: any, all, min, max, sum and sorted take no generator."""
        for file in FILES:
            for node in ast.walk(tree_of(file)):
                self.assertNotIsInstance(node, (ast.GeneratorExp, ast.Yield, ast.YieldFrom, ast.Lambda), file)

    def test_strings_and_words(self):
        for file in FILES:
            tree = tree_of(file)
            told = [node.body[0].value for node in ast.walk(tree)
                    if isinstance(node, (ast.Module, ast.ClassDef, ast.FunctionDef)) and is_docstring(node.body[0])]
            for node in ast.walk(tree):
                if isinstance(node, ast.Constant) and isinstance(node.value, str):
                    self.assertNotIn("%", node.value, file)
                    if node not in told:
                        self.assertIsNone(WORDS.search(node.value), file)
                for name in names_of(node):
                    self.assertIsNone(WORDS.search(name), file)
