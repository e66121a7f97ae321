"""The rules of the language that can be seen in the text of the package."""

import ast
import builtins
import pathlib
import re
import unittest

PACKAGE = pathlib.Path(__file__).resolve().parent.parent / "fdwires"

BUILTINS = set("""len range enumerate zip min max sum abs sorted reversed int str bool list tuple dict set isinstance ord
    repr any all divmod Exception ValueError TypeError KeyError IndexError LookupError ZeroDivisionError RuntimeError
    ArithmeticError OverflowError NotImplementedError AttributeError NotImplemented super property staticmethod classmethod
    iter next map type""".split())
LIBRARY = {"heapq", "math", "itertools", "collections"}
NODES_NOT_USED = (ast.AsyncFor, ast.AsyncFunctionDef, ast.AsyncWith, ast.Await, ast.Import, ast.Div, ast.MatMult,
                  ast.GeneratorExp, ast.Global)
# What a loop can go over by another name of it, and the methods that modify what they are called on.
VIEWS = {"enumerate", "zip", "reversed", "items", "keys", "values"}
MODIFYING = {"append", "clear", "extend", "insert", "pop", "remove", "reverse", "setdefault", "update", "sort", "add", "discard"}
DECORATORS = {"property", "staticmethod", "classmethod"}
NAMES_NOT_USED = set("""register mro elements open input law version_info with_traceback add_note eval exec exit globals
    locals vars id help dir compile""".split())
WORDS_NOT_USED = re.compile(r"\b(typing|enum|Enum|Generic|Protocol|ABC|namedtuple|NamedTuple|TypedDict)\b|dataclass|overload"
                            r"|contextmanager")
METHODS = set("""append clear copy count endswith extend find get index insert isalnum isalpha isdigit islower isspace
    isupper items join keys ljust lower lstrip partition pop remove replace reverse rfind rjust rpartition rsplit rstrip
    setdefault split splitlines startswith strip update upper values zfill bit_length add discard sort __init__""".split())


def files():
    """The files of the package with their texts."""
    return [(path.name, path.read_text("ascii")) for path in sorted(PACKAGE.rglob("*.py"))]


def trees():
    return [(name, ast.parse(text)) for name, text in files()]


def all_nodes():
    return [(f"{name}:{getattr(node, 'lineno', 0)}", node) for name, tree in trees() for node in ast.walk(tree)]


def looped(node):
    """The texts of the names, attributes and items that a loop goes over if this stands behind its in."""
    if isinstance(node, (ast.Name, ast.Attribute, ast.Subscript)):
        return [ast.unparse(node)]
    if isinstance(node, ast.Call) and isinstance(node.func, ast.Name) and node.func.id in VIEWS:
        return [name for inner in node.args for name in looped(inner)]
    if isinstance(node, ast.Call) and isinstance(node.func, ast.Attribute) and node.func.attr in VIEWS:
        return looped(node.func.value)
    if isinstance(node, ast.IfExp):
        return looped(node.body) + looped(node.orelse)
    if isinstance(node, ast.BoolOp):
        return [name for inner in node.values for name in looped(inner)]
    return []


def modified(node):
    """The texts of the values of which a statement or an expression changes an item, or which it changes by a method."""
    if isinstance(node, ast.Subscript) and isinstance(node.ctx, (ast.Store, ast.Del)):
        return [ast.unparse(node.value)]
    if isinstance(node, ast.Call) and isinstance(node.func, ast.Attribute) and node.func.attr in MODIFYING:
        return [ast.unparse(node.func.value)]
    if isinstance(node, ast.AugAssign) and isinstance(node.target, (ast.Name, ast.Attribute)):
        return [ast.unparse(node.target)]
    return []


def changing_loops(tree):
    """The pairs of a line and a text of the loops and comprehensions that change what they go over."""
    found = []
    for node in ast.walk(tree):
        if isinstance(node, ast.For):
            heads, rows = [node.iter], node.body
        elif isinstance(node, (ast.ListComp, ast.SetComp, ast.DictComp, ast.GeneratorExp)):
            heads, rows = [part.iter for part in node.generators], [node]
        else:
            continue
        changed = {name for row in rows for inner in ast.walk(row) for name in modified(inner)}
        found += [(node.lineno, name) for head in heads for name in looped(head) if name in changed]
    return found


class Language(unittest.TestCase):

    def test_the_folder_contains_only_files_of_the_language(self):
        for path in PACKAGE.rglob("*"):
            if "__pycache__" not in path.parts:
                self.assertEqual(".py", path.suffix, path)
        self.assertIn("__init__.py", [name for name, _ in files()])

    def test_sizes_and_characters(self):
        for name, text in files():
            self.assertLess(len(text.splitlines()), 400, name)
            self.assertTrue(all(sign == "\n" or " " <= sign <= "~" for sign in text), name)
            for line in text.splitlines():
                self.assertLessEqual(len(line), 120, (name, line))
        for place, node in all_nodes():
            if isinstance(node, ast.FunctionDef):
                self.assertLessEqual(node.end_lineno - node.lineno + 1, 40, place)

    def test_imports(self):
        for place, node in all_nodes():
            if isinstance(node, ast.ImportFrom):
                self.assertEqual(0, node.level, place)
                self.assertTrue(node.module.startswith("fdwires.") or node.module in LIBRARY, place)
                self.assertNotIn("*", [alias.name for alias in node.names], place)
                self.assertEqual([None], sorted({alias.asname for alias in node.names}, key=str), place)

    def test_imports_have_no_rings(self):
        above = {name[:-3]: [node.module[len("fdwires."):] for node in ast.walk(tree) if isinstance(node, ast.ImportFrom)
                             and node.module.startswith("fdwires.")] for name, tree in trees()}
        while above:
            leaves = [name for name, needs in above.items() if not any(need in above for need in needs)]
            self.assertTrue(leaves, above)
            above = {name: needs for name, needs in above.items() if name not in leaves}

    def test_what_stands_at_module_level(self):
        for name, tree in trees():
            bound = []
            for node in tree.body:
                place = f"{name}:{node.lineno}"
                self.assertIsInstance(node, (ast.Expr, ast.ImportFrom, ast.FunctionDef, ast.ClassDef, ast.Assign), place)
                if isinstance(node, ast.Expr):
                    self.assertIsInstance(node.value, ast.Constant, place)
                elif isinstance(node, ast.ImportFrom):
                    bound += [alias.name for alias in node.names]
                elif isinstance(node, ast.Assign):
                    bound += [target.id for target in node.targets]
                    calls = [inner for inner in ast.walk(node) if isinstance(inner, (ast.Call, ast.ListComp))]
                    self.assertEqual([], calls, place)
                else:
                    bound.append(node.name)
            self.assertEqual(len(bound), len(set(bound)), name)

    def test_nodes_decorators_and_values(self):
        for place, node in all_nodes():
            self.assertNotIsInstance(node, NODES_NOT_USED, place)
            if isinstance(node, ast.Constant):
                self.assertNotIsInstance(node.value, (float, complex), place)
                if isinstance(node.value, str):
                    self.assertNotIn("%", node.value, place)
            if isinstance(node, (ast.FunctionDef, ast.ClassDef)):
                for decorator in node.decorator_list:
                    fine = isinstance(decorator, ast.Attribute) or decorator.id in DECORATORS
                    self.assertTrue(fine, place)
            if isinstance(node, ast.Compare):
                for sign, side in zip(node.ops, node.comparators):
                    if isinstance(sign, (ast.Is, ast.IsNot)):
                        self.assertTrue(isinstance(side, ast.Constant) and side.value in (None, True, False), place)

    def test_names(self):
        # Whoever shows a value, as doctest does, adds the name _ to the builtins.
        given = set(dir(builtins)) - {"_"}
        for place, node in all_nodes():
            if isinstance(node, ast.Name):
                self.assertNotIn(node.id, NAMES_NOT_USED, place)
                if node.id in given:
                    self.assertIn(node.id, BUILTINS, place)
                    self.assertIsInstance(node.ctx, ast.Load, place)
            elif isinstance(node, ast.arg):
                self.assertNotIn(node.arg, given | NAMES_NOT_USED, place)
            elif isinstance(node, (ast.FunctionDef, ast.ClassDef)):
                self.assertNotIn(node.name, given | NAMES_NOT_USED, place)
            elif isinstance(node, ast.keyword):
                self.assertNotIn(node.arg, NAMES_NOT_USED, place)
            elif isinstance(node, ast.Attribute):
                self.assertNotIn(node.attr, NAMES_NOT_USED, place)

    def test_local_names_are_not_those_of_the_file(self):
        for name, tree in trees():
            imported = {alias.name for node in tree.body if isinstance(node, ast.ImportFrom) for alias in node.names}
            read = {node.id for node in ast.walk(tree) if isinstance(node, ast.Name) and isinstance(node.ctx, ast.Load)}
            self.assertLessEqual(imported, read, name)
            defined = {node.name for node in tree.body if isinstance(node, (ast.FunctionDef, ast.ClassDef))}
            for node in ast.walk(tree):
                if isinstance(node, ast.FunctionDef):
                    local = {inner.arg for inner in ast.walk(node) if isinstance(inner, ast.arg)}
                    local |= {inner.id for inner in ast.walk(node) if isinstance(inner, ast.Name)
                              and isinstance(inner.ctx, ast.Store)}
                    self.assertEqual(set(), local & (imported | defined), (name, node.name))

    def test_methods_are_known(self):
        own = {node.name for _, node in all_nodes() if isinstance(node, ast.FunctionDef)}
        for place, node in all_nodes():
            if isinstance(node, ast.Call) and isinstance(node.func, ast.Attribute):
                self.assertIn(node.func.attr, METHODS | own, place)

    def test_loops_leave_what_they_go_over(self):
        for name, tree in trees():
            self.assertEqual([], changing_loops(tree), name)

    def test_loops_that_change_what_they_go_over_are_found(self):
        heads = ("for k in xs: ", "for k, x in enumerate(xs): ", "for x, y in zip(ys, xs): ", "for x in reversed(xs): ",
                 "for k, x in xs.items(): ", "for x in xs.values(): ", "for x in xs if ys else zs: ", "for x in ys or xs: ")
        rows = ("xs[0] = 1", "xs[0] += 1", "del xs[0]", "xs.append(1)", "xs[0], b = 1, 2", "xs[1:2] = []", "xs += [1]", "box[xs.pop()] = 1")
        for head in heads:
            for row in rows:
                self.assertEqual([(1, "xs")], changing_loops(ast.parse(head + row)), head + row)
            deep = head + "\n    while ys:\n        for _ in zs:\n            xs[a][b], xs[k] = 1, 2"
            self.assertEqual([(1, "xs")], changing_loops(ast.parse(deep)))
        self.assertEqual([(1, "xs")], changing_loops(ast.parse("[xs.pop() for x in xs]")))
        self.assertEqual([(1, "box.rows")], changing_loops(ast.parse("for x in box.rows: box.rows[x] = 1")))
        for text in ("for x in list(xs): xs[0] = 1", "for x in range(len(xs)): xs[x] = 1", "for x in xs: ys[xs[0]] = xs[1]",
                     "for x in ys: zs[0] = 1\nys[0] = 1", "[ys.get(x) for x in xs]", "for x in xs: xs[0].n = 1"):
            self.assertEqual([], changing_loops(ast.parse(text)), text)

    def test_words(self):
        for name, text in files():
            self.assertIsNone(WORDS_NOT_USED.search(text), name)
            self.assertIsNone(re.search(r"\btype\b(?!\()", text), name)


if __name__ == "__main__":
    unittest.main()
