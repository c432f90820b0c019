"""The form of the package's files: the plainer part of the subset's rules, checked strictly."""

import ast
import builtins
import re
import unittest
from pathlib import Path

FOLDER = Path(__file__).parent.parent / "seenlots"
FILES = sorted(FOLDER.glob("*.py"))

# Files draw only from those ahead of them (the interface's order; values stands ahead of all).
ORDER = ["errors", "values", "powers", "rows", "spaces", "views", "lots", "kinds", "holds", "reasons", "breaks", "region",
         "bounds", "flags", "covers", "bases", "chances", "weights", "modulo", "groups", "stores", "loops",
         "judge", "texts", "board", "desk"]

LIBRARY = {"math": {"gcd", "lcm", "isqrt", "comb", "perm", "factorial"}}

BUILTINS = set("""len range enumerate zip min max sum abs sorted reversed int str bool list tuple dict set isinstance ord repr any
    all divmod ValueError TypeError KeyError IndexError LookupError""".split())

METHODS = set("""append clear copy count endswith extend find get index insert isascii isdigit items join keys partition pop remove
    replace reverse rfind rstrip setdefault split startswith strip update values zfill bit_length""".split())

DOUBLES = {"__init__", "__len__", "__eq__"}

BARRED = set("""register mro elements open input law version_info with_traceback add_note attrgetter breakpoint builtins compile
    copyright credits delattr dir eval exec exit gc getattr globals hasattr help id importlib license locals methodcaller os quit
    setattr super type vars sys""".split())

# Parameters of the interface that their functions have no need of.
UNREAD = {"hom_image": "group", "limit": "sight"}

OWN_ERRORS = {"NoView", "NoNumber", "NoWord", "NothingDone", "Unfit", "NoPaper", "TooMany", "BadText", "BadLine"}

NODES = (
    ast.Module, ast.FunctionDef, ast.ClassDef, ast.ImportFrom, ast.alias, ast.arguments, ast.arg, ast.Expr, ast.Constant,
    ast.Assign, ast.If, ast.While, ast.For, ast.Return, ast.Break, ast.Continue, ast.Pass, ast.Raise, ast.Name, ast.Load,
    ast.Store, ast.Tuple, ast.List, ast.Dict, ast.Set, ast.Call, ast.Attribute, ast.Subscript, ast.Slice, ast.BinOp, ast.UnaryOp,
    ast.BoolOp, ast.Compare, ast.IfExp, ast.ListComp, ast.SetComp, ast.DictComp, ast.comprehension, ast.operator, ast.unaryop,
    ast.boolop, ast.cmpop, ast.JoinedStr, ast.FormattedValue, ast.Delete, ast.Del, ast.Try, ast.ExceptHandler,
)


def trees():
    for path in FILES:
        yield path, ast.parse(path.read_text(encoding="utf-8"))


def stores(node):
    """All names that a node binds."""
    for part in ast.walk(node):
        if isinstance(part, ast.Name) and isinstance(part.ctx, ast.Store):
            yield part.id
        elif isinstance(part, (ast.FunctionDef, ast.ClassDef)):
            yield part.name
        elif isinstance(part, ast.arg):
            yield part.arg
        elif isinstance(part, ast.alias):
            yield part.asname or part.name


class Form(unittest.TestCase):
    def test_files(self):
        names = [path.name for path in FOLDER.iterdir() if path.name != "__pycache__"]
        self.assertIn("__init__.py", names)
        self.assertEqual(sorted(ORDER + ["__init__"]), sorted(name[:-3] for name in names))
        for path in FILES:
            text = path.read_bytes()
            self.assertTrue(all(sign == 10 or 32 <= sign <= 126 for sign in text), path)
            self.assertTrue(text.endswith(b"\n") and not text.endswith(b"\n\n"), path)
            lines = text.decode().split("\n")
            self.assertLessEqual(len(lines) - 1, 399, path)
            for count, line in enumerate(lines, 1):
                self.assertLessEqual(len(line), 120, (path, count))
                self.assertEqual(line, line.rstrip(), (path, count))
            self.assertNotIn("_wall", text.decode())

    def test_nodes(self):
        for path, tree in trees():
            for node in ast.walk(tree):
                self.assertIsInstance(node, NODES, (path.name, getattr(node, "lineno", 0)))
                place = (path.name, getattr(node, "lineno", 0))
                self.assertNotIsInstance(node, (ast.Div, ast.MatMult), place)
                if isinstance(node, ast.BinOp) and isinstance(node.op, ast.Pow):
                    self.assertTrue(self.is_exponent(node.right), place)
                if isinstance(node, ast.Delete):
                    self.assertTrue(all(isinstance(part, ast.Subscript) for part in node.targets), place)
                if isinstance(node, ast.FormattedValue):
                    # No string inside the braces.
                    self.assertFalse(any(isinstance(part, ast.Constant) for part in ast.walk(node.value)), place)
                    self.assertEqual(node.conversion, -1, place)
                    if node.format_spec is not None:
                        self.assertEqual([part.value for part in node.format_spec.values], ["b"], place)
                if isinstance(node, ast.Try):
                    # Only own errors are caught, by their names.
                    self.assertEqual((node.finalbody, node.orelse), ([], []), place)
                    for handler in node.handlers:
                        caught = handler.type.elts if isinstance(handler.type, ast.Tuple) else [handler.type]
                        self.assertTrue(all(part.id in OWN_ERRORS for part in caught), place)
                        self.assertIsNone(handler.name, place)
                if isinstance(node, ast.Raise):
                    self.assertIsNone(node.cause, place)
                    self.assertIn(node.exc.func.id, OWN_ERRORS, place)
                if isinstance(node, ast.Constant):
                    self.assertNotIsInstance(node.value, (float, complex, bytes, type(...)), place)
                if isinstance(node, ast.Compare):
                    for sign, side in zip(node.ops, node.comparators):
                        if isinstance(sign, (ast.Is, ast.IsNot)):
                            self.assertIsInstance(side, ast.Constant, place)
                if isinstance(node, ast.FunctionDef):
                    self.assertLessEqual(node.end_lineno - node.lineno + 1, 40, place)
                    self.assertEqual(node.decorator_list, [], place)
                    self.assertIsNone(node.returns, place)
                    args = node.args
                    self.assertEqual([args.posonlyargs, args.kwonlyargs, args.vararg, args.kwarg, args.defaults],
                                     [[], [], None, None, []], place)
                    self.assertTrue(all(arg.annotation is None for arg in args.args), place)

    def is_exponent(self, node):
        """Whether a node is a literal to 64, or int(..) % m by a literal m to 65."""
        if isinstance(node, ast.BinOp):
            return self.is_call_of(node.left, "int") and isinstance(node.op, ast.Mod) and 0 < node.right.value <= 65
        return isinstance(node, ast.Constant) and 0 <= node.value <= 64

    def test_top(self):
        for path, tree in trees():
            bound = []
            for count, node in enumerate(tree.body):
                place = (path.name, node.lineno)
                if isinstance(node, ast.Expr):
                    self.assertEqual(count, 0, place)
                    self.assertIsInstance(node.value.value, str, place)
                    continue
                self.assertIsInstance(node, (ast.ImportFrom, ast.FunctionDef, ast.ClassDef, ast.Assign), place)
                if isinstance(node, ast.Assign):
                    self.assertEqual(len(node.targets), 1, place)
                    self.assertIsInstance(node.targets[0], ast.Name, place)
                    ast.literal_eval(node.value)
                    bound.append(node.targets[0].id)
                elif isinstance(node, ast.ImportFrom):
                    bound += [part.name for part in node.names]
                else:
                    bound.append(node.name)
                    for inner in ast.walk(node):
                        if inner is not node and isinstance(node, ast.FunctionDef):
                            self.assertNotIsInstance(inner, (ast.FunctionDef, ast.ImportFrom), place)
            self.assertEqual(len(bound), len(set(bound)), path)
            self.assertTrue(ast.get_docstring(tree), path)

    def test_imports(self):
        defined = {path.stem: {node.name for node in tree.body if isinstance(node, (ast.FunctionDef, ast.ClassDef))}
                   for path, tree in trees()}
        for path, tree in trees():
            used = {node.id for node in ast.walk(tree) if isinstance(node, ast.Name)}
            ended = False
            for node in tree.body:
                if not isinstance(node, ast.ImportFrom):
                    ended = ended or not isinstance(node, ast.Expr)
                    continue
                place = (path.name, node.lineno)
                self.assertFalse(ended, place)
                self.assertEqual(node.level, 0, place)
                self.assertTrue(all(part.asname is None for part in node.names), place)
                names = {part.name for part in node.names}
                self.assertLessEqual(names, used, place)
                if node.module in LIBRARY:
                    self.assertLessEqual(names, LIBRARY[node.module], place)
                    continue
                package, file = node.module.split(".")
                self.assertEqual(package, "seenlots", place)
                self.assertLess(ORDER.index(file), ORDER.index(path.stem), place)
                self.assertLessEqual(names, defined[file], place)

    def test_names(self):
        for path, tree in trees():
            fixed = {part.name for node in tree.body if isinstance(node, ast.ImportFrom) for part in node.names}
            fixed |= {node.name for node in tree.body if isinstance(node, ast.ClassDef)}
            for node in tree.body:
                for name in stores(node):
                    place = (path.name, node.lineno, name)
                    self.assertNotIn(name, BARRED, place)
                    if name in DOUBLES:
                        self.assertIsInstance(node, ast.ClassDef, place)
                        continue
                    self.assertTrue(name == "_" or not hasattr(builtins, name), place)
                    self.assertRegex(name, r"\A(_|_?[A-Za-z][A-Za-z0-9_]*)\Z", place)
                    self.assertNotRegex(name, r"\A(_wall|_pe_|_dcw_|_enum_|_cm_|_twin_re_|_lay_|_law_|_stub_|_sre|_WallAttr)", place)
                    self.assertNotRegex(name, r"\A(_cold|_tuplegetter|_outside|_record|_written_out|_member_names)", place)
                    if isinstance(node, ast.FunctionDef):
                        self.assertNotIn(name, fixed, place)
            read = [node.id for node in ast.walk(tree) if isinstance(node, ast.Name) and isinstance(node.ctx, ast.Load)]
            self.assertNotIn("_", read, path)

    def test_calls(self):
        classes = [node for _, tree in trees() for node in ast.walk(tree) if isinstance(node, ast.ClassDef)]
        methods = {part.name for node in classes for part in node.body if isinstance(part, ast.FunctionDef)} - DOUBLES
        kept = {part.attr for node in classes for part in ast.walk(node) if isinstance(part, ast.Attribute) and isinstance(part.ctx, ast.Store)}
        self.assertFalse(kept & methods)
        for kind in (str, list, dict, set, bytes, int, tuple):
            self.assertFalse((kept | methods) & set(dir(kind)))
        for path, tree in trees():
            own = set(stores(tree))
            parents = {child: node for node in ast.walk(tree) for child in ast.iter_child_nodes(node)}
            for node in ast.walk(tree):
                place = (path.name, getattr(node, "lineno", 0))
                if isinstance(node, ast.Name) and isinstance(node.ctx, ast.Load) and node.id not in own:
                    self.assertIn(node.id, BUILTINS, place)
                    if not node.id.endswith("Error") and node.id not in ("int", "list", "tuple", "str", "dict", "bool"):
                        self.assertIsInstance(parents[node], ast.Call, place)
                        self.assertIs(parents[node].func, node, place)
                if isinstance(node, ast.Call):
                    self.assertEqual(node.keywords, [], place)
                    self.assertFalse(any(isinstance(arg, ast.Starred) for arg in node.args), place)
                    if isinstance(node.func, ast.Attribute):
                        self.assertTrue(node.func.attr in METHODS or node.func.attr in methods, place)
                    if isinstance(node.func, ast.Name) and node.func.id in LIBRARY["math"]:
                        self.assertIn(len(node.args), (1, 2), place)
                if isinstance(node, (ast.Set, ast.SetComp)) or self.is_call_of(node, "set"):
                    # Sets are only sorted on the spot.
                    self.assertTrue(self.is_call_of(parents[node], "sorted") or self.is_call_of(parents[node], "len"), place)
                if isinstance(node, ast.Attribute) and not (isinstance(parents[node], ast.Call) and parents[node].func is node):
                    # An attribute of an own object, of this class, assigned by its __init__.
                    self.assertIn(node.attr, kept, place)
                    self.assertIn(node.value.id, ("self", "other"), place)
                for word in ("zip", "enumerate", "range", "reversed"):
                    if self.is_call_of(node, word) and not any(self.is_call_of(parents[node], kind) for kind in ("list", "tuple", "enumerate", "reversed")):
                        self.assertIsInstance(parents[node], (ast.For, ast.comprehension), place)

    def is_call_of(self, node, name):
        return isinstance(node, ast.Call) and isinstance(node.func, ast.Name) and node.func.id == name

    def test_loops(self):
        # What a loop goes over by its name is not assigned or changed in it.
        for path, tree in trees():
            for node in ast.walk(tree):
                if not isinstance(node, ast.For):
                    continue
                if any(self.is_call_of(node.iter, word) for word in ("list", "sorted", "tuple")):
                    continue
                over = {part.id for part in ast.walk(node.iter) if isinstance(part, ast.Name)}
                for part in [inner for line in node.body for inner in ast.walk(line)]:
                    place = (path.name, part.lineno if hasattr(part, "lineno") else node.lineno)
                    if isinstance(part, ast.Call) and isinstance(part.func, ast.Attribute):
                        if part.func.attr in ("append", "extend", "insert", "pop", "remove", "clear", "reverse", "update"):
                            self.assertNotIn(getattr(part.func.value, "id", ""), over, place)
                    if isinstance(part, ast.Subscript) and isinstance(part.ctx, ast.Store):
                        inside = getattr(node.iter.func, "id", "") if isinstance(node.iter, ast.Call) else ""
                        if inside != "range":
                            self.assertNotIn(getattr(part.value, "id", ""), over, place)

    def test_texts(self):
        for path, tree in trees():
            docs = {id(node.body[0].value) for node in ast.walk(tree)
                    if isinstance(node, (ast.Module, ast.FunctionDef, ast.ClassDef)) and ast.get_docstring(node)}
            for node in ast.walk(tree):
                if isinstance(node, ast.Constant) and isinstance(node.value, str) and id(node) not in docs:
                    self.assertNotRegex(node.value, r"%|__|\btype\b|\benum\b", (path.name, node.lineno))
            for node in ast.walk(tree):
                if isinstance(node, ast.FunctionDef) and node.name not in DOUBLES:
                    self.assertTrue(ast.get_docstring(node), (path.name, node.name))

    def test_words(self):
        words = r"\b(typing|enum|Enum|Flag|Generic|Protocol|ABC|namedtuple|dataclass|overload|contextmanager|async|yield|global)\b"
        for path in FILES:
            self.assertIsNone(re.search(words, path.read_text(encoding="utf-8")), path)

    def test_no_unused(self):
        for path, tree in trees():
            for node in ast.walk(tree):
                if isinstance(node, ast.FunctionDef):
                    names = [part for part in ast.walk(node) if isinstance(part, ast.Name)]
                    read = {part.id for part in names if isinstance(part.ctx, ast.Load)}
                    bound = {part.id for part in names if isinstance(part.ctx, ast.Store)} - {"_"}
                    if node.name != "__init__":
                        bound |= {arg.arg for arg in node.args.args}
                    if node.name in UNREAD:
                        bound -= {UNREAD[node.name]}
                    self.assertLessEqual(bound, read, (path.name, node.name))


if __name__ == "__main__":
    unittest.main()
