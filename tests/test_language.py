"""The files of the package keep the rules of the language that a short test can see."""

import ast
import builtins
import pathlib
import re
import unittest

PACKAGE = pathlib.Path(__file__).resolve().parent.parent / "plainask"
FILES = sorted(PACKAGE.rglob("*.py"))
BUILTINS = """len range enumerate zip min max sum abs sorted reversed int str bool bytes list tuple dict set
    isinstance ord repr any all divmod iter next super property staticmethod classmethod
    Exception ValueError TypeError KeyError IndexError LookupError ZeroDivisionError ArithmeticError
    OverflowError RuntimeError NotImplementedError AttributeError StopIteration NotImplemented""".split()
BARRED_WORDS = """type typing typing_extensions enum Enum IntEnum StrEnum Flag IntFlag Generic Protocol ABC ABCMeta
    namedtuple NamedTuple TypedDict TYPE_CHECKING abstractmethod register mro elements open input law
    version_info with_traceback add_note""".split()

OPERATORS = ["__" + word + "__" for word in """lt le gt ge ne eq add sub mul floordiv mod pow and or xor lshift rshift
    neg pos invert abs bool contains getitem len str repr""".split()]

CHANGES = "append clear extend insert pop remove reverse setdefault sort update add discard".split()
PASSED_THROUGH = ("enumerate", "zip", "reversed", "iter")
VIEWS = ("items", "keys", "values")


def places(node):
    """The texts of the names, fields and items that the expression can give, without a copy."""
    if isinstance(node, (ast.Name, ast.Attribute, ast.Subscript)):
        is_slice = isinstance(node, ast.Subscript) and isinstance(node.slice, ast.Slice)
        return [] if is_slice else [ast.unparse(node)]
    if isinstance(node, ast.IfExp):
        return places(node.body) + places(node.orelse)
    if isinstance(node, ast.BoolOp):
        return [place for value in node.values for place in places(value)]
    if isinstance(node, ast.NamedExpr):
        return places(node.target) + places(node.value)
    return []


def walked_by(node):
    """The places of what is walked, also where enumerate, items and the like stand around it."""
    if isinstance(node, ast.Call) and isinstance(node.func, ast.Name) and node.func.id in PASSED_THROUGH:
        return [place for part in node.args for place in walked_by(part)]
    if isinstance(node, ast.Call) and isinstance(node.func, ast.Attribute) and node.func.attr in VIEWS:
        return walked_by(node.func.value)
    return places(node)


def changed_in(node):
    """The places of what the node changes."""
    if isinstance(node, ast.Call) and isinstance(node.func, ast.Attribute) and node.func.attr in CHANGES:
        return places(node.func.value)
    if isinstance(node, ast.Subscript) and not isinstance(node.ctx, ast.Load):
        return places(node.value)
    if isinstance(node, ast.AugAssign):
        return places(node.target)
    return []


def given(node):
    """The pairs of places of which an assignment gives the one the name of the other."""
    if isinstance(node, ast.Assign):
        pairs = [(target, node.value) for target in node.targets]
    elif isinstance(node, (ast.AnnAssign, ast.NamedExpr)):
        pairs = [(node.target, node.value)]
    else:
        return []
    for target, value in list(pairs):
        if isinstance(target, (ast.Tuple, ast.List)) and isinstance(value, (ast.Tuple, ast.List)):
            pairs.extend(list(zip(target.elts, value.elts)))
    return [(one, other) for target, value in pairs for one in places(target) for other in places(value)]


def with_other_names(found, pairs):
    """The places together with all that any assignment of the function makes another name of them."""
    found = list(found)
    for place in found:
        for one, other in pairs:
            found.extend([new for new in (one, other) if place in (one, other) and new not in found])
    return set(found)


def changed_while_walked(function):
    """The lines of the loops and comprehensions that change what they walk, by any of its names."""
    pairs = [pair for node in ast.walk(function) for pair in given(node)]
    lines = []
    for node in ast.walk(function):
        heads, inside = [], []
        if isinstance(node, ast.For):
            heads, inside = [node.iter], [*node.body, *node.orelse]
        if isinstance(node, (ast.ListComp, ast.SetComp, ast.DictComp, ast.GeneratorExp)):
            heads, inside = [part.iter for part in node.generators], [node]
        walked = with_other_names([place for head in heads for place in walked_by(head)], pairs)
        changed = [place for row in inside for part in ast.walk(row) for place in changed_in(part)]
        if walked & set(changed):
            lines.append(node.lineno)
    return lines


class LanguageTests(unittest.TestCase):
    def test_l1_the_package_holds_nothing_but_its_files(self):
        self.assertIn(PACKAGE / "__init__.py", FILES)
        for path in PACKAGE.rglob("*"):
            if "__pycache__" not in path.parts:
                self.assertTrue(path.suffix == ".py" and re.fullmatch("[a-z0-9_]+", path.stem), path)

    def test_l2_imports_are_from_the_package(self):
        for path, tree in self.trees():
            for node in ast.walk(tree):
                self.assertNotIsInstance(node, ast.Import, path)
                if isinstance(node, ast.ImportFrom):
                    self.assertTrue(node.level == 0 and node.module.startswith("plainask."), path)
                    self.assertIn(node, tree.body, path)

    def test_l8_no_other_builtin_is_read(self):
        for path, tree in self.trees():
            for node in ast.walk(tree):
                if isinstance(node, ast.Name) and node.id in dir(builtins):
                    self.assertIn(node.id, BUILTINS, path)

    def test_l10_sizes(self):
        for path, tree in self.trees():
            lines = path.read_text().split("\n")
            self.assertLessEqual(len(lines), 399, path)
            for line in lines:
                self.assertLessEqual(len(line), 120, path)
            for node in ast.walk(tree):
                if isinstance(node, ast.FunctionDef):
                    self.assertLessEqual(node.end_lineno - node.lineno + 1, 40, (path, node.name))

    def test_l12_names_do_not_begin_with_an_underscore(self):
        for path, tree in self.trees():
            for node in ast.walk(tree):
                name = getattr(node, "id", getattr(node, "attr", getattr(node, "arg", getattr(node, "name", "x"))))
                if isinstance(name, str) and not re.fullmatch("__[a-z]+__", name):
                    self.assertFalse(name.startswith("_"), (path, name))

    def test_l14_characters(self):
        for path in FILES:
            for character in path.read_text():
                self.assertTrue(character == "\n" or " " <= character <= "~", (path, character))

    def test_l15_local_names(self):
        for path, tree in self.trees():
            taken = set(dir(builtins))
            for node in tree.body:
                if isinstance(node, ast.ClassDef):
                    taken.add(node.name)
                if isinstance(node, ast.ImportFrom):
                    taken.update(alias.name for alias in node.names)
            for node in ast.walk(tree):
                if isinstance(node, ast.arg):
                    self.assertNotIn(node.arg, taken, path)
                if isinstance(node, ast.Name) and isinstance(node.ctx, ast.Store):
                    self.assertNotIn(node.id, taken, path)

    def test_l16_imports_name_the_defining_file_and_have_no_circles(self):
        imports = {}
        for path, tree in self.trees():
            imports[path.stem] = [node.module.removeprefix("plainask.") for node in tree.body
                                  if isinstance(node, ast.ImportFrom)]
            for node in tree.body:
                if isinstance(node, ast.ImportFrom):
                    other = ast.parse((PACKAGE / (node.module.removeprefix("plainask.") + ".py")).read_text())
                    here = [part.name for part in other.body if isinstance(part, (ast.FunctionDef, ast.ClassDef))]
                    self.assertLessEqual({alias.name for alias in node.names}, set(here), path)
        while imports:
            ready = [name for name, needed in imports.items() if not set(needed) & set(imports)]
            self.assertTrue(ready, imports)
            for name in ready:
                del imports[name]

    def test_l17_words(self):
        for path in FILES:
            words = set(re.findall(r"\w+", path.read_text()))
            self.assertEqual(words & set(BARRED_WORDS), set(), path)

    def test_l5_no_operator_reaches_a_generator(self):
        for name, function in self.reached_by_operators():
            for node in ast.walk(function):
                self.assertNotIsInstance(node, (ast.Yield, ast.YieldFrom), name)

    def test_l5_operators_change_only_lists_of_their_own(self):
        for name, function in self.reached_by_operators():
            own_lists = {node.targets[0].id for node in ast.walk(function)
                         if isinstance(node, ast.Assign) and isinstance(node.targets[0], ast.Name)
                         and isinstance(node.value, (ast.List, ast.ListComp))}
            parameters = {node.arg for node in ast.walk(function) if isinstance(node, ast.arg)}
            for node in ast.walk(function):
                self.assertNotIsInstance(node, (ast.Delete, ast.AugAssign), name)
                if isinstance(node, ast.Subscript):
                    self.assertIsInstance(node.ctx, ast.Load, name)
                if isinstance(node, ast.Attribute) and not isinstance(node.ctx, ast.Load):
                    self.assertEqual((function.name, node.value.id), ("__init__", "self"), name)
                if isinstance(node, ast.Call) and isinstance(node.func, ast.Name):
                    self.assertNotIn(node.func.id, parameters, name)
                if isinstance(node, ast.Call) and isinstance(node.func, ast.Attribute):
                    self.assertEqual(node.func.attr, "append", name)
                    self.assertIn(node.func.value.id, own_lists, name)

    def test_l5_what_operators_reach_is_found(self):
        names = [name for name, function in self.reached_by_operators()]
        for name in ("Box.__and__", "Box.__sub__", "Box.__init__", "every_combination", "is_natural"):
            self.assertIn(name, names)

    def test_l5_builtins_take_lists(self):
        for path, tree in self.trees():
            for node in ast.walk(tree):
                if isinstance(node, ast.Call) and isinstance(node.func, ast.Name):
                    if node.func.id in ("sum", "min", "max", "sorted", "any", "all"):
                        self.assertNotIsInstance(node.args[0], ast.GeneratorExp, (path, node.lineno))

    def test_l18_no_name_is_a_method_and_an_attribute(self):
        functions = self.functions()
        methods = {name.split(".")[1] for name in functions if "." in name}
        attributes = {node.attr for path, tree in self.trees() for node in ast.walk(tree)
                      if isinstance(node, ast.Attribute) and isinstance(node.ctx, ast.Store)}
        self.assertEqual(methods & attributes, set())

    def test_l5_sorted_min_and_max_take_numbers(self):
        numbers = ("int", "len", "ord")
        for path, tree in self.trees():
            for node in ast.walk(tree):
                if not (isinstance(node, ast.Call) and isinstance(node.func, ast.Name)
                        and node.func.id in ("sorted", "min", "max")):
                    continue
                what = node.args[0]
                by_length = any(word.arg == "key" and word.value.id == "len" for word in node.keywords)
                by_number = (isinstance(what, ast.ListComp) and isinstance(what.elt, ast.Call)
                             and what.elt.func.id in numbers)
                self.assertTrue(by_length or by_number, (path, node.lineno))

    def test_l27_no_percent_sign(self):
        for path in FILES:
            self.assertNotIn("%", path.read_text(), path)

    def test_l23_no_other_function_has_the_name_of_a_generator(self):
        names = [name.split(".")[-1] for name in self.functions()]
        for name, function in self.functions().items():
            if any(isinstance(node, (ast.Yield, ast.YieldFrom)) for node in ast.walk(function)):
                self.assertEqual(names.count(name.split(".")[-1]), 1, name)

    def test_l23_no_loop_changes_what_it_walks(self):
        for name, function in self.functions().items():
            self.assertEqual(changed_while_walked(function), [], name)

    def test_l23_a_loop_that_changes_what_it_walks_is_found(self):
        for rows in ("for x in xs:\n  xs.append(x)",
                     "for x in xs:\n  later.extend([x])\nxs = later",
                     "later = held = xs\nfor x in xs:\n  del held[0]",
                     "xs, later = later, xs\nfor k, x in enumerate(xs):\n  later[k] = x",
                     "self.rows = xs\nfor x in xs:\n  self.rows.pop()",
                     "inner = rows[2]\nfor x in rows[2]:\n  inner += [x]",
                     "later = xs if flag else []\nfor x in xs:\n  later.clear()",
                     "for x in xs or ys:\n  ys.insert(0, x)",
                     "for x in xs:\n  (ys if x else xs).append(x)",
                     "for key, x in table.items():\n  table[key] = x",
                     "ys = [table.pop(key) for key in table]"):
            self.assertEqual(len(changed_while_walked(ast.parse(rows))), 1, rows)

    def test_l23_a_loop_that_changes_something_else_is_left_alone(self):
        for rows in ("for x in list(xs):\n  later.extend([x])\nxs = later",
                     "for x in xs:\n  later.extend([x])\nxs = list(later)",
                     "for x in xs[:]:\n  xs.append(x)",
                     "for x in xs:\n  ys[x] = 1",
                     "xs = [y for x in xs for y in behind(x)]",
                     "for key in sorted(table):\n  table[key] = 0",
                     "while xs:\n  xs.pop()"):
            self.assertEqual(changed_while_walked(ast.parse(rows)), [], rows)

    def functions(self):
        """Every function by its name, every method by the names of its class and its own."""
        found = {}
        for path, tree in self.trees():
            for node in tree.body:
                if isinstance(node, ast.FunctionDef):
                    self.assertNotIn(node.name, found, path)
                    found[node.name] = node
                if isinstance(node, ast.ClassDef):
                    found.update({f"{node.name}.{method.name}": method for method in node.body
                                  if isinstance(method, ast.FunctionDef)})
        return found

    def reached_by_operators(self):
        """The operators, and all functions and methods that they call, also by way of others."""
        functions = self.functions()
        reached = [name for name in functions if name.split(".")[-1] in OPERATORS]
        for name in reached:
            called = [node.func for node in ast.walk(functions[name]) if isinstance(node, ast.Call)]
            ends = [node.id for node in called if isinstance(node, ast.Name)]
            ends += [f"{node.id}.__init__" for node in called if isinstance(node, ast.Name)]
            ends += [other for other in functions for node in called
                     if isinstance(node, ast.Attribute) and other.endswith("." + node.attr)]
            reached.extend([end for end in dict.fromkeys(ends) if end in functions and end not in reached])
        return [(name, functions[name]) for name in reached]

    def trees(self):
        return [(path, ast.parse(path.read_text())) for path in FILES]


if __name__ == "__main__":
    unittest.main()
