"""Rules of ../shared/LANGUAGE.md that can be told from the text of a file; the number of the rule stands ahead.

They are only a part of the rules: what passes here is not yet sure to be right.
"""

import ast
import builtins
import io
import pathlib
import tokenize
import unittest

PACKAGE = pathlib.Path(__file__).resolve().parent.parent / "wishshelves"

LIBRARY = {
    "heapq": "heappush heappop heapify heapreplace heappushpop", "math": "gcd lcm isqrt comb perm factorial",
    "itertools": "product combinations permutations chain accumulate pairwise islice zip_longest",
    "collections": "defaultdict deque", "__future__": "annotations"}

BUILTINS = (
    "len range enumerate zip min max sum abs sorted reversed int str bool list tuple dict set isinstance ord "
    "repr any all divmod pow getattr hasattr setattr iter next map type Exception ValueError TypeError "
    "KeyError IndexError LookupError ZeroDivisionError ArithmeticError OverflowError RuntimeError "
    "NotImplementedError AttributeError StopIteration NotImplemented super property staticmethod classmethod "
    "object").split()

METHODS = (
    "append clear copy count endswith extend find get index insert isalnum isalpha isdigit islower isspace "
    "isupper items join keys ljust lower lstrip partition pop remove replace reverse rfind rjust rpartition "
    "rsplit rstrip setdefault split splitlines startswith strip update upper values zfill bit_length title "
    "capitalize swapcase casefold center expandtabs removeprefix removesuffix rindex isascii isdecimal "
    "isnumeric istitle isidentifier isprintable sort format add discard appendleft popleft extendleft rotate "
    "from_iterable").split()

OPERATORS = "add sub mul floordiv mod and or xor lshift rshift".split()
BINARY = "eq lt le gt ge ne pow ipow".split() + [prefix + one for prefix in ("", "r", "i") for one in OPERATORS]
SPECIAL = [f"__{one}__" for one in "init repr str len enter exit call iter neg pos invert abs bool contains getitem "
           "setitem".split() + BINARY]

BARRED_NAMES = "register mro elements open input law version_info with_traceback add_note".split()
BARRED_WORDS = (
    "type typing typing_extensions enum Enum IntEnum StrEnum Flag IntFlag Generic Protocol ABC ABCMeta "
    "namedtuple NamedTuple TypedDict TYPE_CHECKING abstractmethod _wall _WallAttr").split()

BARRED_NODES = (
    ast.AsyncFunctionDef, ast.AsyncFor, ast.AsyncWith, ast.Await, ast.Div, ast.MatMult, ast.TryStar)

GENERATORS_STAND_IN = "list tuple dict sorted sum min max any all join next".split()


def files_of_the_package():
    """Return (name, text) of each file of the package."""
    return [(path.name, path.read_text(encoding="utf-8")) for path in sorted(PACKAGE.glob("*.py"))]


def functions_in(tree):
    """Return all functions and methods."""
    return [node for node in ast.walk(tree) if isinstance(node, ast.FunctionDef)]


def bound_names(tree):
    """Return (line, name) for each name that functions bind: parameters, targets and nested functions."""
    names = []
    for function in functions_in(tree):
        for node in ast.walk(function):
            if isinstance(node, ast.arg):
                names.append((node.lineno, node.arg))
            elif isinstance(node, ast.Name) and isinstance(node.ctx, ast.Store):
                names.append((node.lineno, node.id))
            elif isinstance(node, ast.FunctionDef) and node is not function:
                names.append((node.lineno, node.name))
    return names


def module_level_names(tree):
    """Return the names that a file binds at its top, as often as it does."""
    names = []
    for node in tree.body:
        if isinstance(node, (ast.FunctionDef, ast.ClassDef)):
            names.append(node.name)
        elif isinstance(node, ast.Assign):
            names += [target.id for target in node.targets if isinstance(target, ast.Name)]
        elif isinstance(node, ast.ImportFrom):
            names += [one.asname or one.name for one in node.names]
    return names


def size_faults(text, tree):
    """L10 and L14: sizes and characters."""
    faults = []
    lines = text.split("\n")
    if len(lines) > 400:
        faults.append((len(lines), "L10: a file of more than 399 lines"))
    for number, line in enumerate(lines, 1):
        if len(line) > 120:
            faults.append((number, "L10: a line of more than 120 characters"))
        if any(not " " <= sign <= "~" for sign in line):
            faults.append((number, "L14: a character that is not from the space to ~"))
    for function in functions_in(tree):
        if function.end_lineno - function.lineno + 1 > 40:
            faults.append((function.lineno, "L10: a function of more than 40 lines"))
    return faults


def module_faults(tree):
    """L2, L3, L15 and L16: what stands at the top of a file."""
    faults = []
    ended = False
    for number, node in enumerate(tree.body):
        if isinstance(node, ast.ImportFrom):
            known = node.module and (node.module.startswith("wishshelves.") or all(
                one.name in LIBRARY.get(node.module, "").split() for one in node.names))
            if node.level or not known or ended or any(one.name == "*" for one in node.names):
                faults.append((node.lineno, "L2: an import that may not stand here"))
            continue
        docstring = number == 0 and isinstance(node, ast.Expr) and isinstance(node.value, ast.Constant)
        ended = ended or not docstring
        plain = isinstance(node, ast.Assign) and len(node.targets) == 1 and isinstance(node.targets[0], ast.Name)
        if not (docstring or plain or isinstance(node, (ast.FunctionDef, ast.ClassDef))):
            faults.append((node.lineno, "L3: a statement that may not stand at the top of a file"))
    names = module_level_names(tree)
    faults += [(1, f"L15: {name} is bound twice") for name in sorted(set(names)) if names.count(name) > 1]
    barred = [node.name for node in tree.body if isinstance(node, ast.ClassDef)]
    barred += [one.name for node in tree.body if isinstance(node, ast.ImportFrom) for one in node.names]
    faults += [(line, f"L15: {name} is a class or an import") for line, name in bound_names(tree) if name in barred]
    for line, name in bound_names(tree) + [(1, name) for name in names]:
        if hasattr(builtins, name):
            faults.append((line, f"L15: {name} is a builtin"))
    return faults


def class_faults(tree):
    """L5 and L18: classes and their methods."""
    faults = []
    for node in ast.walk(tree):
        if not isinstance(node, ast.ClassDef):
            continue
        methods = [one for one in node.body if isinstance(one, ast.FunctionDef)]
        names = [one.name for one in methods]
        if node.decorator_list or node.keywords or node not in tree.body:
            faults.append((node.lineno, "L5: a class that may not stand so"))
        if len(set(names)) < len(names) - sum(bool(one.decorator_list) for one in methods):
            faults.append((node.lineno, "L18: a method is defined twice"))
        if "__getitem__" in names and "__iter__" not in names:
            faults.append((node.lineno, "L5: __getitem__ without __iter__"))
        for one in methods:
            if one.name.startswith("__") and one.name not in SPECIAL:
                faults.append((one.lineno, f"L5: {one.name}"))
            if one.name[2:-2] in BINARY and [arg.arg for arg in one.args.args] != ["self", "other"]:
                faults.append((one.lineno, f"L5: the parameters of {one.name}"))
    return faults


def node_faults(node, parent, known):
    """L6, L7, L8, L17, L20, L25 and L27: single places."""
    if isinstance(node, BARRED_NODES):
        return [f"L6, L7: {node.__class__.__name__}"]
    if isinstance(node, ast.Constant) and isinstance(node.value, (float, complex)):
        return ["L7: a float"]
    if isinstance(node, ast.Constant) and isinstance(node.value, str) and "%" in node.value:
        return ["L27: a sign that no string has"]
    if isinstance(node, ast.Name) and hasattr(builtins, node.id) and node.id not in BUILTINS:
        return [f"L8: {node.id}"]
    if isinstance(node, (ast.Name, ast.Attribute)) and (getattr(node, "id", "") or node.attr) in BARRED_NAMES:
        return ["L17: a name that is not used"]
    if isinstance(node, ast.Attribute) and isinstance(parent, ast.Call) and parent.func is node:
        return [] if node.attr in METHODS or node.attr in known else [f"L25: .{node.attr}()"]
    if isinstance(node, ast.Compare) and any(isinstance(one, (ast.Is, ast.IsNot)) for one in node.ops):
        plain = [one for one in [node.left, *node.comparators] if isinstance(one, ast.Constant)]
        return [] if plain or "self" in ast.unparse(node) else ["L20: is beside neither None, True, False nor self"]
    if isinstance(node, ast.GeneratorExp):
        called = parent.func if isinstance(parent, ast.Call) else None
        name = getattr(called, "id", getattr(called, "attr", ""))
        return [] if name in GENERATORS_STAND_IN else ["L7: a generator expression that may not stand here"]
    if isinstance(node, ast.ExceptHandler):
        plain = node.type is not None and ast.unparse(node.type) not in ("Exception", "TypeError")
        return [] if plain else ["L19: a handler for this error"]
    return []


def place_faults(tree, known):
    """Return the faults of all single places."""
    faults = []
    for parent in ast.walk(tree):
        for node in ast.iter_child_nodes(parent):
            faults += [(getattr(node, "lineno", 1), one) for one in node_faults(node, parent, known)]
    return faults


def word_faults(text, tree):
    """L17: words that occur in comments and docstrings alone."""
    docstrings = set()
    for node in ast.walk(tree):
        if isinstance(node, (ast.Module, ast.ClassDef, ast.FunctionDef)) and ast.get_docstring(node) is not None:
            docstrings.add(node.body[0].lineno)
    faults = []
    for token in tokenize.generate_tokens(io.StringIO(text).readline):
        if token.type == tokenize.COMMENT or token.type == tokenize.STRING and token.start[0] in docstrings:
            continue
        words = "".join(sign if sign.isalnum() or sign == "_" else " " for sign in token.string).split()
        faults += [(token.start[0], f"L17: {word}") for word in words if word in BARRED_WORDS]
    return faults


def faults_of(text, known=()):
    """Return (line, what is wrong) for the text of a file; known are the methods of the package."""
    tree = ast.parse(text)
    return sorted(
        size_faults(text, tree) + module_faults(tree) + class_faults(tree) + place_faults(tree, known)
        + word_faults(text, tree))


class LanguageTest(unittest.TestCase):
    def test_the_folder_holds_files_with_plain_names_alone(self):
        for path in PACKAGE.iterdir():
            if path.name != "__pycache__":
                self.assertRegex(path.name, r"^[a-z_][a-z0-9_]*\.py$")
        self.assertTrue((PACKAGE / "__init__.py").is_file())

    def test_no_file_breaks_a_rule(self):
        trees = [ast.parse(text) for name, text in files_of_the_package()]
        known = [one.name for tree in trees for one in functions_in(tree)]
        for name, text in files_of_the_package():
            self.assertEqual(faults_of(text, known), [], name)

    def test_imports_name_the_file_that_defines(self):
        defined = {}
        for name, text in files_of_the_package():
            tree = ast.parse(text)
            defined["wishshelves." + name[:-3]] = [
                one.name for one in tree.body if isinstance(one, (ast.FunctionDef, ast.ClassDef))] + [
                one.targets[0].id for one in tree.body if isinstance(one, ast.Assign)]
        for name, text in files_of_the_package():
            for node in ast.parse(text).body:
                if isinstance(node, ast.ImportFrom) and node.module.startswith("wishshelves"):
                    for one in node.names:
                        self.assertIn(one.name, defined[node.module], name)

    def test_no_two_files_import_from_each_other(self):
        imports = {}
        for name, text in files_of_the_package():
            imports["wishshelves." + name[:-3]] = [
                node.module for node in ast.parse(text).body if isinstance(node, ast.ImportFrom)]
        while imports:
            free = [name for name, needed in imports.items() if not any(one in imports for one in needed)]
            self.assertTrue(free, sorted(imports))
            imports = {name: needed for name, needed in imports.items() if name not in free}

    def test_faults_are_found(self):
        for text, rule in (
                ("import os\n", "L3"), ("from os import path\n", "L2"), ("from .items import Item\n", "L2"),
                ("A = 1\nA = 2\n", "L15"), ("print(1)\n", "L3"), ("def f(list):\n    return 1\n", "L15"),
                ("def f():\n    return 1 / 2\n", "L6"), ("def f():\n    return 0.5\n", "L7"),
                ("def f():\n    return 'a%b'\n", "L27"), ("def f():\n    return hash(1)\n", "L8"),
                ("def f(x):\n    return x.encode()\n", "L25"), ("def f(x, y):\n    return x is y\n", "L20"),
                ("def f(x):\n    return (y for y in x)\n", "L7"),
                ("class A:\n    def __hash__(self):\n        pass\n", "L5"),
                ("class A:\n    def __getitem__(self, at):\n        return 1\n", "L5"),
                ("class A:\n    def __and__(self, x):\n        return 1\n", "L5"),
                ("class A:\n    def f(self):\n        pass\n\n    def f(self):\n        pass\n", "L18"),
                ("class A:\n    pass\n\n\ndef f(A):\n    pass\n", "L15"), ("B = '" + "x" * 120 + "'\n", "L10"),
                ("def f():\n" + "    x = 1\n" * 40, "L10"), ("# \u00e4\n", "L14"), ("A = 1\n" + "\n" * 400, "L10"),
                ("A = 'enum'\n", "L17"), ("def f():\n    try:\n        pass\n    except:\n        pass\n", "L19"),
                ("def f(x):\n    return x.mro\n", "L17")):
            self.assertTrue([what for line, what in faults_of(text) if what.startswith(rule)], text)
        right = '"""A type."""\n# enum\nA = 1\n\n\ndef f(x):\n    return any([one is None for one in x])\n'
        self.assertEqual(faults_of(right), [])


if __name__ == "__main__":
    unittest.main()
