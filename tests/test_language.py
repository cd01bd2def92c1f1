"""The package keeps to the small part of Python that it is written in, as far as a tree of its source shows it."""

import ast
import builtins
import inspect
import os
import re
import unittest

from stayorgo import errors

FOLDER = os.path.join(os.path.dirname(os.path.dirname(os.path.abspath(__file__))), "stayorgo")
LIBRARY = {"math": ("gcd", "lcm", "isqrt", "comb", "perm", "factorial"), "heapq": ("heappush", "heappop", "heapify")}
CALLED = set(
    "len range enumerate zip min max sum abs sorted reversed int str bool list tuple dict set isinstance ord repr"
    " any all divmod iter".split()
)
ERRORS = {"ValueError", "KeyError", "TypeError", "IndexError", "LookupError", "ZeroDivisionError"}
METHODS = set(
    "append clear copy count endswith extend find get index insert isalnum isalpha isdigit islower isspace isupper"
    " items join keys ljust lower lstrip partition pop remove replace reverse rfind rjust rpartition rsplit rstrip"
    " setdefault split splitlines startswith strip update upper values zfill bit_length".split()
)
DUNDERS = set(
    "__init__ __eq__ __repr__ __str__ __len__ __call__ __iter__ __lt__ __le__ __gt__ __ge__ __add__ __sub__ __mul__"
    " __and__ __or__ __rshift__ __lshift__ __bool__ __contains__".split()
)
NEVER = {"register", "mro", "elements", "open", "input", "law", "version_info", "with_traceback", "add_note"}
WORDS = re.compile(
    r"\b(type|typing|typing_extensions|enum|Enum|IntEnum|StrEnum|Flag|IntFlag|Generic|Protocol|ABC|ABCMeta|namedtuple"
    r"|NamedTuple|TypedDict|TYPE_CHECKING|abstractmethod)\b|dataclass|overload|contextmanager|_wall|_WallAttr"
)
STATEMENTS = (
    ast.FunctionDef, ast.ClassDef, ast.Return, ast.Assign, ast.AugAssign, ast.For, ast.While, ast.If, ast.Raise,
    ast.Try, ast.Assert, ast.ImportFrom, ast.Expr, ast.Pass, ast.Break, ast.Continue, ast.Delete,
)
EXPRESSIONS = (
    ast.BoolOp, ast.BinOp, ast.UnaryOp, ast.IfExp, ast.Dict, ast.Set, ast.ListComp, ast.DictComp, ast.SetComp,
    ast.Compare, ast.Call, ast.JoinedStr, ast.FormattedValue, ast.Constant, ast.Attribute, ast.Subscript, ast.Starred,
    ast.Name, ast.List, ast.Tuple, ast.Slice, ast.Yield,
)
ITERATORS = ("list", "tuple", "dict", "sorted", "sum", "any", "all", "enumerate", "zip", "min", "max")


def sources():
    for name in sorted(os.listdir(FOLDER)):
        if name != "__pycache__":
            with open(os.path.join(FOLDER, name), encoding="utf-8", newline="") as held:
                yield name, held.read()


def with_parents(tree):
    for node in ast.walk(tree):
        for child in ast.iter_child_nodes(node):
            child.parent = node
    return tree


def trees():
    for name, text in sources():
        yield name, with_parents(ast.parse(text))


def docstrings(tree):
    found = []
    for node in ast.walk(tree):
        if isinstance(node, (ast.Module, ast.ClassDef, ast.FunctionDef)) and node.body:
            first = node.body[0]
            if isinstance(first, ast.Expr) and isinstance(first.value, ast.Constant):
                found.append(first.value)
    return found


def bound_in(function):
    """The names that a function binds: parameters, targets, comprehension variables, caught errors."""
    names = [node.arg for node in ast.walk(function) if isinstance(node, ast.arg)]
    names += [node.name for node in ast.walk(function) if isinstance(node, ast.ExceptHandler) and node.name]
    held = [node for node in ast.walk(function) if isinstance(node, ast.Name)]
    return names + [node.id for node in held if isinstance(node.ctx, ast.Store)]


def bound_at_top(tree):
    names = []
    for node in tree.body:
        if isinstance(node, ast.ImportFrom):
            names += [alias.asname or alias.name for alias in node.names]
        elif isinstance(node, (ast.FunctionDef, ast.ClassDef)):
            names.append(node.name)
        elif isinstance(node, ast.Assign):
            names += [target.id for target in node.targets]
    return names


def functions_of(tree):
    return [node for node in ast.walk(tree) if isinstance(node, ast.FunctionDef)]


class Language(unittest.TestCase):
    def each(self, *kinds):
        for name, tree in trees():
            for node in ast.walk(tree):
                if isinstance(node, kinds):
                    yield "{}:{}".format(name, getattr(node, "lineno", 0)), node

    def test_files_and_characters(self):
        names = [name for name, _ in sources()]
        self.assertIn("__init__.py", names)
        self.assertLessEqual(len(names), 100)
        for name, text in sources():
            self.assertRegex(name, r"^([a-z][a-z0-9_]*|__init__)\.py$")
            self.assertFalse(name[:-3] in dir(builtins) or name.startswith(("test", "law_")), name)
            self.assertRegex(text, "^[ -~\n]*$", name)
            self.assertTrue(text.endswith("\n") and not text.endswith("\n\n"), name)
            lines = text.split("\n")
            self.assertLess(len(lines), 400, name)
            for at, line in enumerate(lines, 1):
                self.assertLessEqual(len(line), 120, (name, at))
                self.assertEqual(line, line.rstrip(), (name, at))

    def test_functions_are_small(self):
        for where, node in self.each(ast.FunctionDef):
            self.assertLessEqual(node.end_lineno - node.lineno + 1, 40, where)

    def test_each_has_a_docstring_but_signs(self):
        for where, node in self.each(ast.Module, ast.ClassDef, ast.FunctionDef):
            if not (isinstance(node, ast.FunctionDef) and node.name.startswith("__")):
                self.assertTrue(ast.get_docstring(node), where)

    def test_module_level(self):
        for name, tree in trees():
            behind = False
            for node in tree.body:
                if isinstance(node, ast.ImportFrom):
                    self.assertFalse(behind, name)
                elif not (isinstance(node, ast.Expr) and isinstance(node.value, ast.Constant)):
                    behind = True
                    self.assertIsInstance(node, (ast.FunctionDef, ast.ClassDef, ast.Assign), name)
                if isinstance(node, ast.Assign):
                    self.assertTrue(len(node.targets) == 1 and isinstance(node.targets[0], ast.Name), name)
                    ast.literal_eval(node.value)
            names = bound_at_top(tree)
            self.assertEqual(len(names), len(set(names)), name)

    def test_imports_name_the_very_file_and_go_in_no_circle(self):
        defined, led = {}, {}
        for name, tree in trees():
            held = [node.name for node in tree.body if isinstance(node, (ast.FunctionDef, ast.ClassDef))]
            defined[name[:-3]] = held + [n.targets[0].id for n in tree.body if isinstance(n, ast.Assign)]
        for name, tree in trees():
            led[name[:-3]] = []
            used = [node.id for node in ast.walk(tree) if isinstance(node, ast.Name)]
            for node in [node for node in tree.body if isinstance(node, ast.ImportFrom)]:
                self.assertEqual(node.level, 0)
                for alias in node.names:
                    self.assertIsNone(alias.asname)
                    self.assertIn(alias.name, used, (name, "not used"))
                    if node.module in LIBRARY:
                        self.assertIn(alias.name, LIBRARY[node.module])
                        continue
                    self.assertTrue(node.module.startswith("stayorgo."), name)
                    self.assertIn(alias.name, defined[node.module[9:]], name)
                    led[name[:-3]].append(node.module[9:])
        self.assertEqual(sum(isinstance(node, ast.Import) for _, tree in trees() for node in ast.walk(tree)), 0)
        while led:
            free = [name for name in led if not any(other in led for other in led[name])]
            self.assertTrue(free, led)
            for name in free:
                del led[name]

    def test_kinds_of_statements_and_expressions(self):
        for where, node in self.each(ast.stmt):
            self.assertIsInstance(node, STATEMENTS, where)
        for where, node in self.each(ast.expr):
            self.assertIsInstance(node, EXPRESSIONS, where)
        for where, node in self.each(ast.Div, ast.MatMult):
            self.fail("operator in " + where)
        for where, node in self.each(ast.BinOp):
            if isinstance(node.op, ast.Pow):
                self.assertIsInstance(node.right, ast.Constant, where)

    def test_constants(self):
        for name, tree in trees():
            told = docstrings(tree)
            for node in ast.walk(tree):
                if not isinstance(node, ast.Constant):
                    continue
                self.assertNotIsInstance(node.value, (float, complex, bytes), name)
                if isinstance(node.value, str):
                    self.assertNotIn("%", node.value, name)
                    self.assertFalse(node.value.endswith(("._", ".__")), name)
                    self.assertFalse(node.value.startswith("__") and node.value.endswith("__"), name)
                    if node not in told:
                        self.assertNotRegex(node.value, WORDS, name)

    def test_names(self):
        own = {node.name for _, tree in trees() for node in tree.body if isinstance(node, ast.ClassDef)}
        for name, tree in trees():
            tops = bound_at_top(tree)
            fixed = [n for node in tree.body if isinstance(node, ast.ImportFrom) for n in [a.name for a in node.names]]
            fixed += [node.name for node in tree.body if isinstance(node, ast.ClassDef)]
            for word in tops + [word for function in functions_of(tree) for word in bound_in(function)]:
                if word not in ERRORS:
                    self.assertNotIn(word, dir(builtins), name)
                self.assertNotIn(word, NEVER, name)
                self.assertRegex(word, "^(_|_?[A-Za-z][A-Za-z0-9_]*)$", name)
                self.assertNotRegex(word, WORDS, name)
            for function in functions_of(tree):
                for word in bound_in(function):
                    self.assertNotIn(word, fixed, (name, function.name))
                    self.assertNotIn(word, own, (name, function.name))
            for node in ast.walk(tree):
                if isinstance(node, ast.Attribute):
                    self.assertFalse(node.attr.startswith("__") or node.attr in NEVER, name)
                    self.assertNotRegex(node.attr, WORDS, name)

    def test_names_that_are_read(self):
        for name, tree in trees():
            tops = bound_at_top(tree)
            for function in functions_of(tree):
                held = bound_in(function)
                for node in [node for row in function.body for node in ast.walk(row)]:
                    if isinstance(node, ast.Name) and isinstance(node.ctx, ast.Load):
                        self.assertIn(node.id, {*held, *tops, *CALLED, *ERRORS}, name)
                        self.assertNotEqual(node.id, "_", name)

    def test_functions_and_classes(self):
        for where, node in self.each(ast.FunctionDef):
            self.assertIsNone(node.returns, where)
            for decorator in node.decorator_list:
                self.assertIn(decorator.id, ("property", "staticmethod", "classmethod"), where)
                self.assertIsInstance(node.parent, ast.ClassDef, where)
            self.assertTrue(not node.name.startswith("__") or node.name in DUNDERS, where)
            self.assertIsInstance(node.parent, (ast.ClassDef, ast.Module), where)
            self.assertFalse(node.args.posonlyargs or node.args.kwarg, where)
            if node.args.vararg:
                # Any number of arguments, without an annotation, behind a plain first parameter of a method.
                self.assertTrue(isinstance(node.parent, ast.ClassDef) and len(node.args.args) == 1, where)
                self.assertTrue(node.args.vararg.annotation is None and not node.decorator_list, where)
            for default in node.args.defaults + [held for held in node.args.kw_defaults if held]:
                ast.literal_eval(default)
        for where, node in self.each(ast.ClassDef):
            self.assertEqual((node.decorator_list, node.keywords), ([], []), where)
            self.assertIsInstance(node.parent, ast.Module, where)
            names = [held.name for held in node.body if isinstance(held, ast.FunctionDef)]
            self.assertEqual(len(names), len(set(names)), where)
            for held in node.body:
                self.assertIsInstance(held, (ast.FunctionDef, ast.Expr), where)

    def test_is_stands_beside_none_true_and_false(self):
        for where, node in self.each(ast.Compare):
            for op, right in zip(node.ops, node.comparators):
                if isinstance(op, (ast.Is, ast.IsNot)):
                    self.assertTrue(isinstance(right, ast.Constant) and right.value in (None, True, False), where)

    def test_what_is_iterated_at_once(self):
        for where, node in self.each(ast.Call):
            if not (isinstance(node.func, ast.Name) and node.func.id in ("zip", "enumerate", "reversed", "range")):
                continue
            held = node.parent
            if isinstance(held, (ast.For, ast.comprehension)):
                self.assertIs(held.iter, node, where)
            elif node.func.id == "range" and isinstance(held, (ast.Assign, ast.Compare)):
                continue
            else:
                self.assertTrue(isinstance(held, ast.Call) and held.func.id in ITERATORS, where)

    def test_sets_stay_where_they_are_written(self):
        for where, node in self.each(ast.Set, ast.SetComp, ast.Call):
            if isinstance(node, ast.Call) and not (isinstance(node.func, ast.Name) and node.func.id == "set"):
                continue
            held = node.parent
            while isinstance(held, ast.BinOp):
                held = held.parent
            self.assertTrue(isinstance(held, ast.Compare) or held.func.id in ("sorted", "len"), where)

    def test_calls(self):
        held = [node for _, tree in trees() for node in functions_of(tree)]
        methods = {node.name for node in held if isinstance(node.parent, ast.ClassDef)}
        for where, node in self.each(ast.Call):
            if isinstance(node.func, ast.Attribute):
                self.assertIn(node.func.attr, METHODS | methods, where)
                self.assertFalse(node.keywords and node.func.attr in METHODS, where)
            if isinstance(node.func, ast.Name) and node.func.id in CALLED:
                words = {word.arg for word in node.keywords}
                self.assertLessEqual(words, {"key", "reverse", "default", "start"}, where)
            self.assertFalse(any(word.arg is None for word in node.keywords), where)
            self.assertFalse(any(isinstance(held, ast.Starred) for held in node.args), where)

    def test_builtins_are_called_and_not_passed_on(self):
        for where, node in self.each(ast.Name):
            if node.id in CALLED and isinstance(node.ctx, ast.Load):
                held = node.parent
                called = isinstance(held, ast.Call) and held.func is node
                kind = isinstance(held, ast.Call) and isinstance(held.func, ast.Name) and held.func.id == "isinstance"
                self.assertTrue(called or kind or isinstance(held, ast.Tuple), where)

    def test_errors_are_made_on_the_spot(self):
        for where, node in self.each(ast.Raise):
            if node.exc is None:
                held = node.parent
                while not isinstance(held, (ast.ExceptHandler, ast.FunctionDef)):
                    held = held.parent
                self.assertIsInstance(held, ast.ExceptHandler, where)
            else:
                self.assertTrue(isinstance(node.exc, ast.Call) and node.cause is None, where)
        own = {name for name, _ in inspect.getmembers(errors, inspect.isclass)}
        for where, node in self.each(ast.ExceptHandler):
            self.assertTrue(isinstance(node.type, ast.Name) and node.type.id in own, where)
            # Of a caught error only its own attributes are read.
            for held in ast.walk(node):
                if isinstance(held, ast.Name) and held.id == node.name:
                    self.assertTrue(isinstance(held.parent, ast.Attribute) and held.parent.attr != "args", where)

    def test_loops_do_not_change_what_they_go_over(self):
        for where, node in self.each(ast.For):
            over = {held.id for held in ast.walk(node.iter) if isinstance(held, ast.Name)}
            for held in ast.walk(node):
                if isinstance(held, ast.Call) and isinstance(held.func, ast.Attribute) and held.func.attr == "append":
                    self.assertFalse(isinstance(held.func.value, ast.Name) and held.func.value.id in over, where)
                if isinstance(held, ast.Subscript) and isinstance(held.ctx, (ast.Store, ast.Del)):
                    self.assertFalse(isinstance(held.value, ast.Name) and held.value.id in over, where)

    def test_generators(self):
        made = [node.parent for _, node in self.each(ast.Yield)]
        self.assertTrue(all(isinstance(held, ast.Expr) for held in made))
        functions = [node for _, node in self.each(ast.FunctionDef)]
        makers = [node for node in functions if any(isinstance(held, ast.Yield) for held in ast.walk(node))]
        for node in makers:
            self.assertEqual(node.decorator_list, [])
            self.assertFalse(node.name.startswith("__") or node.name in METHODS, node.name)
            self.assertEqual([held.name for held in functions].count(node.name), 1, node.name)
            for held in ast.walk(node):
                self.assertFalse(isinstance(held, (ast.Try, ast.With)), node.name)
                self.assertFalse(isinstance(held, ast.Return) and held.value is not None, node.name)

    def test_signs_and_properties_change_nothing(self):
        defined = {}
        for _, node in self.each(ast.FunctionDef):
            defined.setdefault(node.name, []).append(node)
        open_ones = [
            node for held in defined.values() for node in held
            if (node.name in DUNDERS - {"__init__", "__call__", "__iter__"})
            or any(mark.id == "property" for mark in node.decorator_list)
        ]
        seen = []
        while open_ones:
            node = open_ones.pop()
            if node in seen:
                continue
            seen.append(node)
            self.check_changes_nothing(node)
            for held in ast.walk(node):
                if isinstance(held, ast.Call):
                    name = held.func.id if isinstance(held.func, ast.Name) else held.func.attr
                    open_ones += defined.get(name, [])
        self.assertGreater(len(seen), 10)

    def check_changes_nothing(self, node):
        fresh = (ast.List, ast.ListComp)
        for held in ast.walk(node):
            if isinstance(held, (ast.Attribute, ast.Subscript)):
                self.assertIsInstance(held.ctx, ast.Load, node.name)
            if isinstance(held, ast.AugAssign):
                self.assertTrue(isinstance(held.target, ast.Name) and isinstance(held.value, ast.Constant), node.name)
            if isinstance(held, ast.Call) and isinstance(held.func, ast.Attribute) and held.func.attr == "append":
                name = held.func.value.id
                made = [
                    one.value for one in ast.walk(node)
                    if isinstance(one, ast.Assign) and any(getattr(t, "id", None) == name for t in one.targets)
                ]
                self.assertTrue(made and all(isinstance(one, fresh) for one in made), node.name)
            if isinstance(held, ast.Call) and isinstance(held.func, ast.Attribute):
                self.assertNotIn(held.func.attr, ("extend", "insert", "pop", "remove", "reverse", "clear", "update"))

    def test_any_and_the_like_take_lists(self):
        # A class has an __eq__, so no generator expression stands anywhere.
        self.assertEqual(list(self.each(ast.GeneratorExp, ast.Lambda)), [])
        self.assertEqual([where for where, node in self.each(ast.Attribute) if node.attr == "sort"], [])
