"""The form of the code: the rules of LANGUAGE.md that a program can see easily."""

import ast
import builtins
import pathlib
import unittest

PACKAGE = pathlib.Path(__file__).resolve().parent.parent / "templates"
FILES = sorted(PACKAGE.glob("*.py"))

LIBRARY = {"math": {"gcd"}, "itertools": {"combinations"}}
GONE_OVER = {"list", "tuple", "dict", "sorted", "sum", "any", "all", "enumerate", "zip", "min", "max", "len"}
CHANGES = {"append", "clear", "extend", "insert", "pop", "remove", "reverse", "setdefault", "update", "add", "discard"}

BUILTINS = set("""len range enumerate zip min max sum abs sorted reversed int str bool bytes list tuple dict set
    isinstance ord repr any all divmod Exception ValueError TypeError KeyError IndexError LookupError
    ZeroDivisionError ArithmeticError OverflowError RuntimeError NotImplementedError AttributeError""".split())
METHODS = set("""append clear copy count endswith extend find get index insert isdigit items join keys pop remove
    reverse setdefault split startswith strip update values bit_length add discard sort __init__""".split())
BARRED_NAMES = set("""register mro elements open input law version_info with_traceback add_note attrgetter breakpoint
    builtins compile copyright credits delattr dir eval exec exit gc globals help id importlib license locals
    methodcaller os quit super vars sys _wall _cold _record _outside _written_out _member_names""".split())
BARRED_WORDS = set("""typing enum Enum Flag Generic Protocol ABC namedtuple NamedTuple TypedDict dataclass overload
    contextmanager abstractmethod TYPE_CHECKING""".split())
STATEMENTS = (ast.Import, ast.Global, ast.AsyncFunctionDef, ast.Try, ast.With, ast.Match, ast.Yield, ast.YieldFrom,
              ast.NamedExpr, ast.Await, ast.Nonlocal, ast.Delete)


def trees():
    return [(path, ast.parse(path.read_text(encoding="utf-8"))) for path in FILES]


def nodes(kind):
    return [(path.name, node) for path, tree in trees() for node in ast.walk(tree) if isinstance(node, kind)]


def bound_names(tree):
    """All names that a file binds somewhere."""
    names = set()
    for node in ast.walk(tree):
        if isinstance(node, (ast.FunctionDef, ast.ClassDef)):
            names.add(node.name)
        elif isinstance(node, ast.Name) and isinstance(node.ctx, ast.Store):
            names.add(node.id)
        elif isinstance(node, ast.arg):
            names.add(node.arg)
        elif isinstance(node, ast.alias):
            names.add(node.name)
    return names


def is_passing(node):
    """Whether a node makes a range, a zip or a view, which is not kept."""
    if not isinstance(node, ast.Call):
        return False
    if isinstance(node.func, ast.Name):
        return node.func.id in ("range", "zip", "enumerate", "reversed")
    return isinstance(node.func, ast.Attribute) and node.func.attr in ("items", "keys", "values") and not node.args


def is_gone_over(node, parent):
    if isinstance(parent, (ast.For, ast.comprehension)):
        return parent.iter is node
    if isinstance(parent, ast.Call):
        called = getattr(parent.func, "id", "")
        if called == "reversed":
            return getattr(node.func, "id", "") == "range"
        return called == "zip" or (called in GONE_OVER and parent.args[0] is node)
    return isinstance(parent, ast.Assign) and node.func.id == "range"


class FormTest(unittest.TestCase):

    def test_files(self):
        for path in PACKAGE.iterdir():
            if path.name != "__pycache__":
                self.assertRegex(path.name, r"^[a-z_]+\.py$")
        self.assertIn(PACKAGE / "__init__.py", FILES)

    def test_signs_and_sizes(self):
        for path in FILES:
            text = path.read_bytes().decode("ascii")
            self.assertTrue(all(sign == "\n" or " " <= sign <= "~" for sign in text), path.name)
            lines = text.split("\n")
            self.assertLess(len(lines), 400, path.name)
            self.assertLessEqual(max(len(line) for line in lines), 120, path.name)

    def test_functions_are_short_and_plain(self):
        for name, node in nodes(ast.FunctionDef):
            self.assertLessEqual(node.end_lineno - node.lineno + 1, 40, (name, node.name))
            self.assertEqual(node.decorator_list, [], (name, node.name))

    def test_module_level(self):
        for path, tree in trees():
            names = []
            for at, node in enumerate(tree.body):
                docstring = at == 0 and isinstance(node, ast.Expr) and isinstance(node.value, ast.Constant)
                plain = isinstance(node, (ast.ImportFrom, ast.FunctionDef, ast.ClassDef, ast.Assign))
                self.assertTrue(docstring or plain, (path.name, node.lineno))
                if isinstance(node, ast.Assign):
                    names += [target.id for target in node.targets]
                elif isinstance(node, ast.ImportFrom):
                    names += [alias.name for alias in node.names]
                elif not docstring:
                    names.append(node.name)
            self.assertEqual(len(names), len(set(names)), path.name)

    def test_imports_name_the_file_that_defines(self):
        defined = {path.stem: {node.name for node in tree.body if isinstance(node, (ast.FunctionDef, ast.ClassDef))}
                   | {target.id for node in tree.body if isinstance(node, ast.Assign) for target in node.targets}
                   for path, tree in trees()}
        for name, node in nodes(ast.ImportFrom):
            package, _, module = node.module.partition(".")
            self.assertEqual(node.level, 0, name)
            if package in LIBRARY:
                self.assertLessEqual({alias.name for alias in node.names}, LIBRARY[package], name)
                continue
            self.assertEqual(package, "templates", name)
            for alias in node.names:
                self.assertIn(alias.name, defined[module], name)
                self.assertIsNone(alias.asname, name)

    def test_names_of_the_library_are_only_called(self):
        for path, tree in trees():
            borrowed = {alias.name for node in tree.body if isinstance(node, ast.ImportFrom) and node.module in LIBRARY
                        for alias in node.names}
            called = [node.func for node in ast.walk(tree) if isinstance(node, ast.Call)]
            for node in ast.walk(tree):
                if isinstance(node, ast.Name) and node.id in borrowed:
                    self.assertIn(node, called, (path.name, node.lineno))
                elif isinstance(node, (ast.arg, ast.FunctionDef)):
                    self.assertNotIn(getattr(node, "arg", getattr(node, "name", None)), borrowed, path.name)

    def test_ranges_and_views_are_gone_over_at_once(self):
        for path, tree in trees():
            parents = {child: node for node in ast.walk(tree) for child in ast.iter_child_nodes(node)}
            for node in ast.walk(tree):
                if is_passing(node):
                    self.assertTrue(is_gone_over(node, parents[node]), (path.name, node.lineno))

    def test_loops_do_not_change_what_they_go_over(self):
        for name, loop in nodes(ast.For):
            over = {ast.unparse(part) for part in ast.walk(loop.iter) if isinstance(part, (ast.Name, ast.Attribute))}
            if isinstance(loop.iter, ast.Call) and getattr(loop.iter.func, "id", "") in ("list", "range", "sorted"):
                over = set()
            for node in [part for statement in loop.body for part in ast.walk(statement)]:
                if isinstance(node, (ast.Subscript, ast.Attribute)) and isinstance(node.ctx, ast.Store):
                    whole = node.value if isinstance(node, ast.Subscript) else node
                    self.assertNotIn(ast.unparse(whole), over, (name, node.lineno))
                if isinstance(node, ast.Call) and getattr(node.func, "attr", "") in CHANGES:
                    self.assertNotIn(ast.unparse(node.func.value), over, (name, node.lineno))

    def test_no_imports_in_a_circle(self):
        wanted = {path.stem: {node.module.partition(".")[2] for node in tree.body
                              if isinstance(node, ast.ImportFrom) and node.module not in LIBRARY}
                  for path, tree in trees()}
        while wanted:
            free = [name for name, others in wanted.items() if not others & set(wanted)]
            self.assertTrue(free, sorted(wanted))
            wanted = {name: others for name, others in wanted.items() if name not in free}

    def test_statements(self):
        self.assertEqual([(name, node) for name, node in nodes(STATEMENTS)], [])
        for name, node in nodes(ast.Compare):
            for operator, other in zip(node.ops, node.comparators):
                if isinstance(operator, (ast.Is, ast.IsNot)):
                    self.assertIsInstance(other, ast.Constant, (name, node.lineno))
        for name, node in nodes(ast.Raise):
            self.assertIsInstance(node.exc, ast.Call, (name, node.lineno))

    def test_builtins(self):
        for path, tree in trees():
            bound = bound_names(tree)
            self.assertEqual(bound & set(dir(builtins)), set(), path.name)
            self.assertEqual(bound & BARRED_NAMES, set(), path.name)
            for node in ast.walk(tree):
                if isinstance(node, ast.Name) and node.id not in bound:
                    self.assertIn(node.id, BUILTINS, (path.name, node.lineno))

    def test_locals_do_not_hide_imports_or_classes(self):
        for path, tree in trees():
            top = {alias.name for node in tree.body if isinstance(node, ast.ImportFrom) for alias in node.names}
            top |= {node.name for node in tree.body if isinstance(node, (ast.ClassDef, ast.FunctionDef))}
            for node in ast.walk(tree):
                if isinstance(node, ast.arg):
                    self.assertNotIn(node.arg, top, (path.name, node.lineno))
                if isinstance(node, ast.Name) and isinstance(node.ctx, ast.Store):
                    self.assertNotIn(node.id, top, (path.name, node.lineno))

    def test_methods_and_attributes(self):
        own = {node.name for _, node in nodes(ast.FunctionDef)}
        stored = {node.attr for _, node in nodes(ast.Attribute) if isinstance(node.ctx, ast.Store)}
        self.assertEqual(stored & METHODS - {"index", "count"}, set())
        self.assertEqual(own & METHODS - {"__init__"}, set())
        for name, node in nodes(ast.Attribute):
            self.assertIn(node.attr, METHODS | own | stored, (name, node.lineno))

    def test_values(self):
        for name, node in nodes(ast.Constant):
            self.assertNotIsInstance(node.value, (float, complex, bytes), (name, node.lineno))
            if isinstance(node.value, str):
                self.assertNotIn("%", node.value, (name, node.lineno))
                self.assertEqual(set(node.value.replace(",", " ").split()) & BARRED_WORDS, set())
        for name, node in nodes(ast.BinOp):
            self.assertNotIsInstance(node.op, (ast.Div, ast.MatMult), (name, node.lineno))
            if isinstance(node.op, ast.Pow):
                self.assertIsInstance(node.right, ast.Constant, (name, node.lineno))

    def test_sets_are_not_iterated_or_stored_elsewhere(self):
        for name, node in nodes((ast.For, ast.comprehension)):
            self.assertNotIsInstance(node.iter, (ast.Set, ast.SetComp), name)
            if isinstance(node.iter, ast.Call) and isinstance(node.iter.func, ast.Name):
                self.assertNotEqual(node.iter.func.id, "set", name)
        for name, node in nodes(ast.Return):
            if isinstance(node.value, ast.Call) and isinstance(node.value.func, ast.Name):
                self.assertNotEqual(node.value.func.id, "set", name)


if __name__ == "__main__":
    unittest.main()
