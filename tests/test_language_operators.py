"""Rules of ../shared/LANGUAGE.md that hold because the package has operators, orders and generators: L5 above all.

They are told from the text alone, and more narrowly than the rules are: what passes is not yet sure to be right.
"""

import ast
import unittest

from test_language import files_of_the_package

MAY_CHANGE = ("__init__", "__setitem__", "__ior__", "__iter__", "__call__", "__enter__", "__exit__")
CHANGING = "append clear extend insert pop remove reverse setdefault sort update add discard".split()
MADE_BY = "list dict set sorted".split()
TAKE_A_LIST = "any all min max sum sorted".split()
PLAIN_CALLS = "len int str ord repr".split()


class Package:
    """The functions, methods and classes of some texts by name; methods of several classes may share a name."""

    def __init__(self, texts):
        self.trees = [ast.parse(text) for text in texts]
        self.functions, self.methods, self.made = {}, {}, {}
        for tree in self.trees:
            for node in tree.body:
                if isinstance(node, ast.FunctionDef):
                    self.functions[node.name] = node
                if isinstance(node, ast.ClassDef):
                    self.take_class(node)

    def take_class(self, node):
        for method in node.body:
            if isinstance(method, ast.FunctionDef):
                self.methods.setdefault(method.name, []).append(method)
                if method.name == "__init__":
                    self.made[node.name] = method

    def called_by(self, function):
        """Return the functions and methods that a function may call, also the __init__ of a class."""
        found = []
        for node in ast.walk(function):
            if isinstance(node, ast.Call) and isinstance(node.func, ast.Name):
                name = node.func.id
                found += [table[name] for table in (self.functions, self.made) if name in table]
            elif isinstance(node, ast.Call) and isinstance(node.func, ast.Attribute):
                found += self.methods.get(node.func.attr, [])
        return found

    def run_by_operators(self):
        """Return all functions that an operator or a property may come to."""
        waiting = [method for name, methods in self.methods.items() for method in methods
                   if name.startswith("__") and name not in MAY_CHANGE or is_property(method)]
        found = []
        while waiting:
            function = waiting.pop()
            if function not in found:
                found.append(function)
                waiting += self.called_by(function)
        return found


def is_property(method):
    """Tell whether a method is a property."""
    return [ast.unparse(one) for one in method.decorator_list] == ["property"]


def is_of_a_room(called):
    """Tell whether room.add is called: a deed."""
    return ast.unparse(called) == "room.add"


def is_new(value):
    """Tell whether an expression surely makes a list, dict or set of its own."""
    if isinstance(value, ast.Call):
        return isinstance(value.func, ast.Name) and value.func.id in MADE_BY
    if isinstance(value, ast.BinOp):
        return isinstance(value.left, ast.List)
    return isinstance(value, (ast.List, ast.Dict, ast.Set, ast.ListComp, ast.DictComp, ast.SetComp))


def own_names(function):
    """Return the names of a function that are only ever assigned what it made itself."""
    made, other = set(), {one.arg for one in ast.walk(function.args) if isinstance(one, ast.arg)}
    for node in ast.walk(function):
        targets = node.targets if isinstance(node, ast.Assign) else []
        for target in targets:
            if isinstance(target, ast.Name) and is_new(node.value):
                made.add(target)
    names = {node.id for node in made}
    stored = [node for node in ast.walk(function) if isinstance(node, ast.Name) and isinstance(node.ctx, ast.Store)]
    other |= {node.id for node in stored if node not in made}
    return names - other


def changes_in(function):
    """Return the lines at which a function may change what it did not make."""
    own, lines = own_names(function), []
    parameters = {one.arg for one in ast.walk(function.args) if isinstance(one, ast.arg)}
    for node in ast.walk(function):
        if isinstance(node, ast.Attribute) and isinstance(node.ctx, (ast.Store, ast.Del)):
            if function.name != "__init__" or ast.unparse(node.value) != "self":
                lines.append(node.lineno)
        elif isinstance(node, ast.Subscript) and isinstance(node.ctx, (ast.Store, ast.Del)):
            if ast.unparse(node.value) not in own:
                lines.append(node.lineno)
        elif isinstance(node, ast.Call) and isinstance(node.func, ast.Attribute) and node.func.attr in CHANGING:
            base = node.func.value
            if isinstance(base, ast.Call) and getattr(base.func, "attr", "") == "setdefault":
                base = base.func.value
            if ast.unparse(base) not in own:
                lines.append(node.lineno)
        elif isinstance(node, ast.Call) and isinstance(node.func, ast.Name) and node.func.id in parameters:
            lines.append(node.lineno)
        elif isinstance(node, (ast.Yield, ast.YieldFrom, ast.Global, ast.Nonlocal, ast.Lambda)):
            lines.append(node.lineno)
    return lines


def is_plain(value):
    """Tell whether an expression plainly is a number, a string, or a list or set of such."""
    if isinstance(value, ast.Call) and isinstance(value.func, ast.Name):
        return value.func.id in PLAIN_CALLS or value.func.id in ("set", "range") and all(map(is_plain, value.args))
    if isinstance(value, (ast.ListComp, ast.List)):
        return all(map(is_plain, [value.elt] if isinstance(value, ast.ListComp) else value.elts))
    if isinstance(value, ast.BinOp):
        return is_plain(value.left) and is_plain(value.right)
    return isinstance(value, (ast.Constant, ast.JoinedStr))


def faults_of(node):
    """Return what is wrong with a single place."""
    faults = []
    if isinstance(node, ast.AugAssign) and not (isinstance(node.value, ast.Constant) and type(node.value.value) is int):
        faults.append("L5: += of what is no literal integer")
    if isinstance(node, ast.Call) and isinstance(node.func, ast.Name):
        name = node.func.id
        if name in TAKE_A_LIST and any(isinstance(one, ast.GeneratorExp) for one in node.args):
            faults.append("L7: a generator expression where a class has __eq__")
        if name in ("sorted", "min", "max") and not any(map(is_plain, node.args)):
            faults.append("L5: what is sorted is not plainly numbers or strings")
        turned = getattr(getattr(node.args[0], "func", None), "id", "") if node.args else ""
        if name == "reversed" and turned not in ("list", "tuple", "range"):
            faults.append("L5: reversed of no list")
    if isinstance(node, ast.Call) and getattr(node.func, "attr", "") in ("sort", "add", "discard"):
        faults += [] if is_of_a_room(node.func) else ["L5, L24: a method that the package's own classes may have"]
    if isinstance(node, (ast.For, ast.comprehension)):
        if isinstance(node.iter, ast.Call) and getattr(node.iter.func, "id", "") in ("set", "frozenset"):
            faults.append("L24: a loop over a set")
    return [(getattr(node, "lineno", 0), fault) for fault in faults]


class OperatorsTest(unittest.TestCase):
    def test_what_operators_run_changes_only_what_it_made(self):
        package = Package([text for name, text in files_of_the_package()])
        functions = package.run_by_operators()
        self.assertIn("joined", [one.name for one in functions])
        self.assertNotIn("combined", [one.name for one in functions])
        for function in functions:
            self.assertEqual(changes_in(function), [], function.name)

    def test_single_places(self):
        for name, text in files_of_the_package():
            for node in ast.walk(ast.parse(text)):
                self.assertEqual(faults_of(node), [], name)

    def test_no_name_is_a_method_and_an_attribute(self):
        package = Package([text for name, text in files_of_the_package()])
        stored = {node.attr for tree in package.trees for node in ast.walk(tree)
                  if isinstance(node, ast.Attribute) and isinstance(node.ctx, ast.Store)}
        self.assertEqual(stored & set(package.methods), set())

    def test_properties(self):
        package = Package([text for name, text in files_of_the_package()])
        names = [name for name, methods in package.methods.items() if any(map(is_property, methods))]
        self.assertEqual(sorted(names), ["folder", "item"])
        for name in names:
            self.assertTrue(all(map(is_property, package.methods[name])), name)
            self.assertNotIn(name, package.functions)
        for tree in package.trees:
            for node in ast.walk(tree):
                if isinstance(node, ast.Call) and isinstance(node.func, ast.Attribute):
                    self.assertNotIn(node.func.attr, names)
                if isinstance(node, ast.FunctionDef):
                    decorators = [ast.unparse(one) for one in node.decorator_list]
                    self.assertIn(decorators, ([], ["property"]))

    def test_the_ends_of_blocks(self):
        package = Package([text for name, text in files_of_the_package()])
        self.assertEqual(len(package.methods["__exit__"]), 2)
        for method in package.methods["__exit__"]:
            self.assertEqual([one.arg for one in method.args.args], ["self", "kind", "value", "trace"])
            for node in method.body:
                for one in node.body if isinstance(node, ast.If) else [node]:
                    # net = self.net, net.now = 0, net.rows = self.rows
                    self.assertRegex(ast.unparse(one), r"^[a-z.]+ = (self\.[a-z]+|None)$")
                if isinstance(node, ast.If):
                    self.assertIn(ast.unparse(node.test), ("kind is None", "kind is not None"))
                    self.assertEqual(node.orelse, [])

    def test_each_attribute_that_is_read_is_assigned(self):
        package = Package([text for name, text in files_of_the_package()])
        stored, read = set(package.methods), set()
        for tree in package.trees:
            called = [node.func for node in ast.walk(tree) if isinstance(node, ast.Call)]
            for node in ast.walk(tree):
                if isinstance(node, ast.Attribute) and isinstance(node.ctx, ast.Store):
                    stored.add(node.attr)
                elif isinstance(node, ast.Attribute) and node not in called:
                    read.add(node.attr)
        self.assertEqual(read - stored, set())

    def test_names_of_generators_are_their_own(self):
        package = Package([text for name, text in files_of_the_package()])
        functions = [node for tree in package.trees for node in ast.walk(tree) if isinstance(node, ast.FunctionDef)]
        yielding = [one.name for one in functions
                    if any(isinstance(node, (ast.Yield, ast.YieldFrom)) for node in ast.walk(one))]
        self.assertEqual(sorted(yielding), sorted(set(yielding)))
        for name in yielding:
            self.assertEqual([one.name for one in functions].count(name), 1)

    def test_faults_are_found(self):
        for rows in ("self.n = 1", "other[0] = 1", "other.append(1)", "rows = other\n        rows.append(1)",
                     "other(1)", "rows = []\n        rows = other\n        rows[0] = 1", "self.rows.append(1)",
                     "helped(other)", "del other[0]", "Box(other)"):
            text = f"class A:\n    def __and__(self, other):\n        {rows}\n"
            text += "class Box:\n    def __init__(self, rows):\n        rows.append(1)\n"
            text += "def helped(rows):\n    for row in rows:\n        row.clear()\n"
            package = Package([text])
            self.assertTrue([one for one in package.run_by_operators() if changes_in(one)], rows)
        for rows in ("found = []\n        found.append(other)", "found = [0] * 3\n        found[0], other = 1, 2",
                     "found = {}\n        found.setdefault(1, []).append(2)", "other = 1\n        other += 1"):
            package = Package([f"class A:\n    def __and__(self, other):\n        {rows}\n"])
            self.assertEqual([changes_in(one) for one in package.run_by_operators()], [[]], rows)
        for text in ("a += b", "sorted(rows)", "min(a, b)", "any(a for a in rows)", "reversed(rows)", "rows.sort()",
                     "seen.add(1)", "for a in set(rows):\n    pass", "sorted([row for row in rows])"):
            self.assertTrue([one for node in ast.walk(ast.parse(text)) for one in faults_of(node)], text)
        for text in ("a += 1", "sorted([str(a) for a in rows])", "max(0, n)", "any([a for a in rows])",
                     "reversed(list(rows))", "sorted(set([int(a) for a in rows]))"):
            self.assertEqual([one for node in ast.walk(ast.parse(text)) for one in faults_of(node)], [], text)
        for rows in ("self.n = 1\n        return 1", "helped(self.rows)\n        return 1"):
            text = f"class A:\n    @property\n    def low(self):\n        {rows}\n"
            package = Package([text + "def helped(rows):\n    rows.append(1)\n"])
            self.assertTrue([one for one in package.run_by_operators() if changes_in(one)], rows)


if __name__ == "__main__":
    unittest.main()
