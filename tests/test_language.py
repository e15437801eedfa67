"""The package keeps to the small part of Python that it is written in."""

import ast
import builtins
import pathlib
import re
import unittest

PACKAGE = pathlib.Path(__file__).resolve().parent.parent / "copperboarddesk"
FILES = sorted(PACKAGE.glob("*.py"))

STATEMENTS = (
    ast.Assign, ast.AugAssign, ast.If, ast.While, ast.For, ast.Return, ast.Break, ast.Continue, ast.Pass,
    ast.Raise, ast.Try, ast.Expr, ast.FunctionDef, ast.ClassDef, ast.ImportFrom,
)
BUILT_IN = (
    "len range enumerate zip min max sum abs sorted reversed int str bool list tuple dict set frozenset "
    "isinstance ord repr any all divmod Exception ValueError KeyError IndexError LookupError"
).split()
METHODS = (
    "append clear copy count endswith extend find get index insert items join keys pop remove replace reverse "
    "setdefault split startswith strip update values bit_length"
).split()
NOWHERE = (
    "type typing typing_extensions enum Enum IntEnum StrEnum Flag IntFlag Generic Protocol ABC ABCMeta "
    "namedtuple NamedTuple TypedDict TYPE_CHECKING abstractmethod"
).split()
NOT_USED = (
    "register mro elements open input version_info with_traceback add_note attrgetter breakpoint builtins compile "
    "copyright credits delattr dir eval exec exit gc getattr globals hasattr help id importlib license locals "
    "methodcaller os quit setattr super sys type vars chr format format_map"
).split()
TOO_OTHER = (
    ast.Lambda, ast.Set, ast.SetComp, ast.DictComp, ast.GeneratorExp, ast.NamedExpr, ast.Starred, ast.Await,
    ast.Yield, ast.YieldFrom, ast.Div, ast.MatMult, ast.Is, ast.IsNot, ast.Pow, ast.JoinedStr,
)
WALKED_AT_ONCE = "zip enumerate reversed range items keys values".split()
WALKED_BY = "list tuple dict sorted sum any all enumerate zip min max".split()
KEYWORDS = {"sorted": ("key", "reverse"), "min": ("key", "default"), "max": ("key", "default"), "sum": ("start",),
            "enumerate": ("start",), "zip": ("strict",)}


def trees():
    return [(path.name, ast.parse(path.read_text("utf-8"))) for path in FILES]


def defs(tree):
    return [node for node in ast.walk(tree) if isinstance(node, ast.FunctionDef)]


def calls(tree):
    return [node for node in ast.walk(tree) if isinstance(node, ast.Call)]


def called_name(node):
    return node.func.id if isinstance(node.func, ast.Name) else getattr(node.func, "attr", None)


# A plain value: what a name at a file's top may be given.
def is_plain(node, functions):
    if isinstance(node, ast.UnaryOp) and isinstance(node.op, ast.USub):
        node = node.operand
    if isinstance(node, ast.Tuple):
        return all(is_plain(part, functions) for part in node.elts)
    return isinstance(node, ast.Constant) or (isinstance(node, ast.Name) and node.id in functions)


class Files(unittest.TestCase):
    def test_nothing_else_lies_in_the_folder(self):
        found = [path.name for path in PACKAGE.iterdir() if path.name != "__pycache__"]
        self.assertEqual(sorted(found), [path.name for path in FILES])
        for name in found:
            self.assertRegex(name, r"^[a-z0-9_]+\.py$")

    def test_signs_and_sizes(self):
        for path in FILES:
            text = path.read_text("utf-8")
            self.assertRegex(text, r"\A[ -~\n]*\Z")
            rows = text.split("\n")
            self.assertLessEqual(len(rows), 400)
            self.assertLessEqual(max(len(row) for row in rows), 120)

    def test_words_that_stand_nowhere(self):
        for path in FILES:
            text = path.read_text("utf-8")
            for word in NOWHERE:
                self.assertIsNone(re.search(r"\b" + word + r"\b", text), (path.name, word))
            for word in ("dataclass", "overload", "contextmanager"):
                self.assertNotIn(word, text)

    def test_functions_are_short(self):
        for name, tree in trees():
            for node in defs(tree):
                self.assertLessEqual(node.end_lineno - node.lineno + 1, 40, (name, node.name))


class Code(unittest.TestCase):
    def test_statements(self):
        for name, tree in trees():
            for node in ast.walk(tree):
                if isinstance(node, ast.stmt):
                    self.assertIsInstance(node, STATEMENTS, (name, node.lineno))
                if isinstance(node, (ast.For, ast.While)):
                    self.assertEqual(node.orelse, [], (name, node.lineno))
                if isinstance(node, ast.Assign):
                    self.assertEqual(len(node.targets), 1, (name, node.lineno))
                    self.assertNotIsInstance(node.targets[0], ast.Tuple, (name, node.lineno))
                if isinstance(node, ast.Expr) and node is not tree.body[0]:
                    self.assertIsInstance(node.value, ast.Call, (name, node.lineno))

    def test_values(self):
        for name, tree in trees():
            for node in ast.walk(tree):
                self.assertNotIsInstance(node, TOO_OTHER, (name, getattr(node, "lineno", 0)))
                if isinstance(node, ast.Constant):
                    self.assertIsInstance(node.value, (int, str, type(None)), (name, node.lineno))
                if isinstance(node, ast.ListComp):
                    self.assertEqual(len(node.generators), 1, (name, node.lineno))
                    self.assertLessEqual(len(node.generators[0].ifs), 1, (name, node.lineno))

    def test_imports_are_the_package_s_own_and_go_one_way(self):
        drawn = {}
        for name, tree in trees():
            rows = [node for node in ast.walk(tree) if isinstance(node, ast.ImportFrom)]
            for row in rows:
                self.assertEqual(row.level, 0)
                self.assertRegex(row.module, r"^copperboarddesk\.[a-z]+$")
                self.assertIn(row, tree.body)
            drawn[name] = {row.module.split(".")[1] + ".py" for row in rows}
        self.assertEqual(drawn["__init__.py"], set())
        while drawn:
            free = [name for name in drawn if not drawn[name] & set(drawn)]
            self.assertNotEqual(free, [], "files draw from one another")
            drawn = {name: drawn[name] for name in drawn if name not in free}

    def test_names(self):
        for name, tree in trees():
            own = {node.name for node in ast.walk(tree) if isinstance(node, (ast.FunctionDef, ast.ClassDef))}
            own |= {alias.name for node in ast.walk(tree) if isinstance(node, ast.ImportFrom)
                    for alias in node.names}
            bound = {node.id for node in ast.walk(tree)
                     if isinstance(node, ast.Name) and isinstance(node.ctx, ast.Store)}
            bound |= {arg.arg for node in defs(tree) for arg in node.args.args}
            self.assertEqual(bound & (set(BUILT_IN) | own | set(dir(builtins))), set(), name)
            for node in ast.walk(tree):
                if isinstance(node, ast.Name):
                    self.assertIn(node.id, own | bound | set(BUILT_IN), (name, node.lineno))
                    self.assertFalse(node.id.startswith("_"), (name, node.lineno))

    def test_functions_are_plain(self):
        for name, tree in trees():
            for node in defs(tree):
                self.assertEqual(node.decorator_list, [])
                self.assertIsNone(node.args.vararg or node.args.kwarg or node.returns)
                self.assertEqual(node.args.kwonlyargs + node.args.posonlyargs, [])
                self.assertEqual([arg.annotation for arg in node.args.args if arg.annotation], [])

    def test_methods_and_values_of_objects(self):
        methods = set()
        values = set()
        called = set()
        for name, tree in trees():
            for node in ast.walk(tree):
                if isinstance(node, ast.ClassDef):
                    methods |= {part.name for part in node.body}
                if isinstance(node, ast.Attribute) and isinstance(node.ctx, ast.Store):
                    values.add(node.attr)
                if isinstance(node, ast.Call) and isinstance(node.func, ast.Attribute):
                    called.add(node.func.attr)
        python_s_own = {word for kind in (str, int, list, dict, set, bytes, tuple) for word in dir(kind)}
        self.assertEqual(methods & values, set())
        self.assertEqual((methods - {"__init__"} | values) & python_s_own, set())
        self.assertEqual(called - methods - set(METHODS), set())


class TopOfAFile(unittest.TestCase):
    def test_what_stands_there(self):
        for name, tree in trees():
            self.assertIsNotNone(ast.get_docstring(tree), name)
            bound = []
            for node in tree.body[1:]:
                self.assertIsInstance(node, (ast.ImportFrom, ast.FunctionDef, ast.ClassDef, ast.Assign), name)
                if isinstance(node, ast.Assign):
                    self.check_value(node.value, bound, (name, node.lineno))
                    bound.append(node.targets[0].id)
                elif isinstance(node, ast.ImportFrom):
                    bound += [alias.name for alias in node.names]
                    self.assertEqual([alias.asname for alias in node.names], [None] * len(node.names), name)
                else:
                    bound.append(node.name)
            self.assertEqual(sorted(bound), sorted(set(bound)), name)

    def check_value(self, value, bound, place):
        parts = [value]
        if isinstance(value, ast.Dict):
            parts = value.keys + value.values
        if isinstance(value, ast.List):
            parts = value.elts
        for part in parts:
            self.assertTrue(is_plain(part, bound), place)

    def test_each_name_comes_from_the_file_that_defines_it(self):
        made = {name: {node.name for node in tree.body if isinstance(node, (ast.FunctionDef, ast.ClassDef))}
                | {node.targets[0].id for node in tree.body if isinstance(node, ast.Assign)} for name, tree in trees()}
        for name, tree in trees():
            for row in [node for node in tree.body if isinstance(node, ast.ImportFrom)]:
                for alias in row.names:
                    self.assertIn(alias.name, made[row.module.split(".")[1] + ".py"], name)
                    uses = [node for node in ast.walk(tree) if isinstance(node, ast.Name) and node.id == alias.name]
                    self.assertNotEqual(uses, [], (name, alias.name))


class Calls(unittest.TestCase):
    def test_names_that_are_not_used(self):
        for name, tree in trees():
            for node in ast.walk(tree):
                for word in (getattr(node, "id", None), getattr(node, "attr", None), getattr(node, "name", None)):
                    self.assertNotIn(word, NOT_USED, (name, getattr(node, "lineno", 0)))

    def test_sets_are_not_used(self):
        for name, tree in trees():
            for node in calls(tree):
                self.assertNotIn(called_name(node), ("set", "frozenset"), (name, node.lineno))

    def test_what_is_walked_is_walked_on_the_spot(self):
        for name, tree in trees():
            walked = [node.iter for node in ast.walk(tree) if isinstance(node, (ast.For, ast.comprehension))]
            walked += [node.args[0] for node in calls(tree) if called_name(node) in WALKED_BY and node.args]
            for node in calls(tree):
                if called_name(node) in WALKED_AT_ONCE:
                    self.assertIn(node, walked, (name, node.lineno))

    def test_keywords(self):
        for name, tree in trees():
            for node in calls(tree):
                for keyword in node.keywords:
                    self.assertIn(keyword.arg, KEYWORDS.get(called_name(node), ()), (name, node.lineno))

    def test_what_a_loop_walks_is_not_changed_in_it(self):
        changes = "append clear extend insert pop remove reverse setdefault update".split()
        for name, tree in trees():
            for loop in [node for node in ast.walk(tree) if isinstance(node, ast.For)]:
                walked = ast.dump(loop.iter)
                for node in [node for row in loop.body for node in ast.walk(row)]:
                    if isinstance(node, ast.Call) and called_name(node) in changes:
                        self.assertNotEqual(ast.dump(node.func.value), walked, (name, node.lineno))
                    if isinstance(node, ast.Subscript) and isinstance(node.ctx, ast.Store):
                        self.assertNotEqual(ast.dump(node.value).replace("Store", "Load"), walked, (name, node.lineno))
