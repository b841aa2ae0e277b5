"""What of ../shared/LANGUAGE.md can be told by the form of the code; the package uses less than it allows."""

import ast
import builtins
import pathlib
import unittest

FOLDER = pathlib.Path(__file__).resolve().parent.parent / "plainmoment"

NODES = set("""Module Expr Constant FunctionDef arguments arg ClassDef ImportFrom alias Assign AugAssign Return If While
For Break Continue Pass Raise Call Attribute Name Subscript Slice Tuple List Dict Set ListComp DictComp SetComp
comprehension BoolOp And Or BinOp Add Sub Mult Mod FloorDiv UnaryOp Not USub Compare Eq NotEq Lt LtE Gt GtE Is IsNot In
NotIn IfExp Load Store Starred JoinedStr FormattedValue keyword Try ExceptHandler With withitem Lambda""".split())

BUILTINS = set("""len range enumerate zip min max sum abs sorted reversed int str bool list tuple dict set isinstance
ord repr any all divmod ValueError OverflowError staticmethod property""".split())

METHODS = set("""append clear copy count endswith extend find get index insert isalnum isalpha isdigit islower isspace
isupper items join keys ljust lower lstrip partition pop remove replace reverse rfind rjust rpartition rsplit rstrip
setdefault split splitlines startswith strip update upper values zfill bit_length""".split())

BARRED = set("""register mro elements open input law version_info with_traceback add_note attrgetter breakpoint builtins
compile copyright credits delattr dir eval exec exit gc getattr globals hasattr help id importlib license locals
methodcaller os quit setattr super type vars sys print chr bytes frozenset iter next map""".split())

WORDS = set("""type typing typing_extensions enum Enum IntEnum StrEnum Flag IntFlag Generic Protocol ABC ABCMeta namedtuple
NamedTuple TypedDict TYPE_CHECKING abstractmethod dataclass overload contextmanager""".split())

LIBRARY = {"itertools": ("combinations",), "math": ("gcd",)}

AT_ONCE = set("list tuple dict sorted sum any all enumerate zip min max".split())


def files():
    return sorted(FOLDER.glob("*.py"))


def trees():
    return [(path, ast.parse(path.read_text())) for path in files()]


def parents_of(tree):
    return {child: node for node in ast.walk(tree) for child in ast.iter_child_nodes(node)}


def functions_of(tree):
    return [node for node in ast.walk(tree) if isinstance(node, ast.FunctionDef)]


def bound_in(function):
    names = [part.arg for part in ast.walk(function.args) if isinstance(part, ast.arg)]
    return names + [part.id for part in ast.walk(function)
                    if isinstance(part, ast.Name) and isinstance(part.ctx, ast.Store)]


def bound_at_top(tree):
    names = []
    for node in tree.body:
        if isinstance(node, ast.ImportFrom):
            names += [part.name for part in node.names]
        elif isinstance(node, (ast.FunctionDef, ast.ClassDef)):
            names.append(node.name)
        elif isinstance(node, ast.Assign):
            names += [target.id for target in node.targets]
    return names


def called(node):
    return node.func.id if isinstance(node, ast.Call) and isinstance(node.func, ast.Name) else None


class Language(unittest.TestCase):
    def test_files(self):
        inside = [path for path in FOLDER.iterdir() if path.name != "__pycache__"]
        self.assertEqual(sorted(inside), files())
        for path in files():
            self.assertRegex(path.name, r"\A[a-z_]+\.py\Z")
            text = path.read_text()
            self.assertTrue(all(sign == "\n" or " " <= sign <= "~" for sign in text), path)
            lines = text.split("\n")
            self.assertLessEqual(len(lines), 400, path)
            self.assertLessEqual(max(map(len, lines)), 120, path)

    def test_functions_are_short(self):
        for path, tree in trees():
            for node in functions_of(tree):
                self.assertLessEqual(node.end_lineno - node.lineno + 1, 40, f"{path.name} {node.name}")
                self.assertIn([ast.unparse(part) for part in node.decorator_list], ([], ["staticmethod"], ["property"]))

    def test_only_plain_parts(self):
        for path, tree in trees():
            for node in ast.walk(tree):
                self.assertIn(type(node).__name__, NODES, f"{path.name}:{getattr(node, 'lineno', 0)}")
                if isinstance(node, ast.Constant):
                    self.assertIn(type(node.value), (str, int, bool, type(None)))
                if isinstance(node, ast.FunctionDef):
                    for part in ast.walk(node):
                        self.assertTrue(part is node or not isinstance(part, ast.FunctionDef), path)

    def test_module_level(self):
        allowed = (ast.Expr, ast.ImportFrom, ast.FunctionDef, ast.ClassDef, ast.Assign)
        for path, tree in trees():
            self.assertIsNotNone(ast.get_docstring(tree), path)
            for at, node in enumerate(tree.body):
                self.assertIsInstance(node, allowed, path)
                if isinstance(node, ast.Expr):
                    self.assertEqual(at, 0)
                if isinstance(node, ast.Assign):
                    self.assertEqual(len(node.targets), 1)
                    for part in ast.walk(node.value):
                        self.assertIsInstance(part, (ast.Constant, ast.Tuple, ast.Dict, ast.UnaryOp, ast.USub,
                                                     ast.Load, ast.Name), path)
                        if isinstance(part, ast.Name):
                            self.assertIn(part.id, bound_at_top(tree)[:bound_at_top(tree).index(node.targets[0].id)])
            names = bound_at_top(tree)
            self.assertEqual(len(names), len(set(names)), path)
            self.assertFalse(set(names) & set(dir(builtins)), path)

    def test_imports_lead_to_where_a_name_is_made_and_never_round(self):
        made, leads = {}, {}
        for path, tree in trees():
            made[path.stem] = {node.name for node in tree.body if isinstance(node, (ast.FunctionDef, ast.ClassDef))}
            made[path.stem] |= {node.targets[0].id for node in tree.body if isinstance(node, ast.Assign)}
            begun = [node for node in tree.body if not isinstance(node, (ast.ImportFrom, ast.Expr))]
            imports = [node for node in tree.body if isinstance(node, ast.ImportFrom)]
            self.assertTrue(all(node.lineno < begun[0].lineno for node in imports), path)
            leads[path.stem] = [node.module for node in imports if node.module not in LIBRARY]
        for path, tree in trees():
            for node in ast.walk(tree):
                if isinstance(node, ast.ImportFrom):
                    self.assertEqual(node.level, 0)
                    if node.module in LIBRARY:
                        self.assertLessEqual({(part.name, part.asname) for part in node.names},
                                             {(name, None) for name in LIBRARY[node.module]})
                        continue
                    package, _, name = node.module.partition(".")
                    self.assertEqual(package, "plainmoment")
                    for part in node.names:
                        self.assertIsNone(part.asname)
                        self.assertIn(part.name, made[name], path)
        done = {"__init__"}
        while len(done) < len(made):
            ready = [name for name in made if name not in done
                     and all(module.partition(".")[2] in done for module in leads[name])]
            self.assertTrue(ready, "imports lead round")
            done.update(ready)

    def test_names(self):
        for path, tree in trees():
            top = bound_at_top(tree)
            for node in functions_of(tree):
                for name in bound_in(node):
                    self.assertNotIn(name, top, f"{path.name} {node.name}")
                    self.assertFalse(hasattr(builtins, name), f"{path.name} {node.name} {name}")
                    self.assertNotIn(name, BARRED)
                    self.assertRegex(name, r"\A(_|_?[A-Za-z][A-Za-z0-9_]*)\Z")
            for node in ast.walk(tree):
                if isinstance(node, ast.Name):
                    self.assertNotIn(node.id, BARRED, f"{path.name}:{node.lineno}")
                    if isinstance(node.ctx, ast.Load) and hasattr(builtins, node.id):
                        self.assertIn(node.id, BUILTINS, f"{path.name}:{node.lineno}")
                        self.assertNotEqual(node.id, "_")
                if isinstance(node, (ast.FunctionDef, ast.ClassDef)):
                    self.assertNotIn(node.name, BARRED)
                    if node.name.startswith("__"):
                        self.assertIn(node.name, ("__init__", "__eq__", "__len__", "__enter__", "__exit__"))

    def test_methods(self):
        kinds = (str, int, list, tuple, dict, set, bytes)
        builtin = {name for kind in kinds for name in dir(kind)}
        for path, tree in trees():
            for node in ast.walk(tree):
                if isinstance(node, ast.Attribute):
                    self.assertNotIn(node.attr, BARRED)
                    self.assertTrue(node.attr not in builtin or node.attr in METHODS, f"{path.name}:{node.lineno}")
                if isinstance(node, ast.ClassDef):
                    methods = [part.name for part in functions_of(node)]
                    self.assertEqual(len(methods), len(set(methods)))
                    stored = [part.attr for part in ast.walk(node)
                              if isinstance(part, ast.Attribute) and isinstance(part.ctx, ast.Store)]
                    self.assertFalse(set(methods) & set(stored), node.name)

    def test_only_own_errors_are_caught(self):
        own = {"MomentError", "TooMany"} | {
            node.name for _, tree in trees() for node in tree.body if isinstance(node, ast.ClassDef)
            and [ast.unparse(base) for base in node.bases] == ["MomentError"]}
        for path, tree in trees():
            for node in ast.walk(tree):
                if isinstance(node, ast.Try):
                    self.assertEqual(node.finalbody, [])
                if isinstance(node, ast.ExceptHandler):
                    self.assertIsNone(node.name)
                    kinds = node.type.elts if isinstance(node.type, ast.Tuple) else [node.type]
                    self.assertLessEqual({kind.id for kind in kinds}, own, f"{path.name}:{node.lineno}")

    def test_comparisons_by_is(self):
        for path, tree in trees():
            for node in ast.walk(tree):
                if isinstance(node, ast.Compare) and any(isinstance(op, (ast.Is, ast.IsNot)) for op in node.ops):
                    other = node.comparators[0]
                    self.assertIsInstance(other, ast.Constant, f"{path.name}:{node.lineno}")
                    self.assertIn(other.value, (None, True, False))

    def test_strings(self):
        for path, tree in trees():
            parents = parents_of(tree)
            for node in ast.walk(tree):
                if isinstance(node, ast.Constant) and isinstance(node.value, str):
                    self.assertNotIn("%", node.value)
                    self.assertFalse(node.value.startswith("__"))
                    self.assertFalse(node.value.endswith(("._", ".__")))
                    if not isinstance(parents[node], ast.Expr):
                        self.assertFalse(WORDS & set(node.value.split()), f"{path.name}:{node.lineno}")

    def test_sets_stand_only_where_they_are_sorted_or_asked(self):
        for path, tree in trees():
            parents = parents_of(tree)
            for node in ast.walk(tree):
                if isinstance(node, (ast.Set, ast.SetComp)) or called(node) == "set":
                    over = parents[node]
                    right = called(over) in ("sorted", "len") or isinstance(over, ast.Compare)
                    self.assertTrue(right, f"{path.name}:{node.lineno}")

    def test_zips_and_the_like_are_iterated_at_once(self):
        for path, tree in trees():
            parents = parents_of(tree)
            for node in ast.walk(tree):
                view = isinstance(node, ast.Call) and isinstance(node.func, ast.Attribute) and node.func.attr in (
                    "items", "keys", "values")
                if view or called(node) in ("zip", "enumerate", "reversed", "range"):
                    over = parents[node]
                    right = (isinstance(over, (ast.For, ast.comprehension)) and over.iter is node) or (
                        called(over) in AT_ONCE)
                    self.assertTrue(right, f"{path.name}:{node.lineno}")

    def test_builtins_take_no_keywords_but_their_own(self):
        allowed = {"sorted": ("key", "reverse"), "min": ("key", "default"), "max": ("key", "default"),
                   "sum": ("start",), "enumerate": ("start",), "zip": ("strict",)}
        for path, tree in trees():
            for node in ast.walk(tree):
                name = called(node)
                if name in BUILTINS and not name[0].isupper():
                    for part in node.keywords:
                        self.assertIn(part.arg, allowed.get(name, ()), f"{path.name}:{node.lineno}")

    def test_what_is_gone_through_is_not_changed(self):
        changing = ("append", "clear", "extend", "insert", "pop", "remove", "reverse", "setdefault", "update")
        for path, tree in trees():
            for loop in ast.walk(tree):
                if not isinstance(loop, ast.For):
                    continue
                over = {ast.dump(part).replace("Store()", "Load()") for part in ast.walk(loop.iter)
                        if isinstance(part, (ast.Name, ast.Attribute))}
                for statement in loop.body:
                    for part in ast.walk(statement):
                        if isinstance(part, ast.Call) and isinstance(part.func, ast.Attribute):
                            if part.func.attr in changing:
                                self.assertNotIn(ast.dump(part.func.value), over, f"{path.name}:{part.lineno}")

    def test_comparing_and_counting_assign_nothing(self):
        for path, tree in trees():
            for node in functions_of(tree):
                if node.name in ("__eq__", "__len__"):
                    self.assertEqual([type(part) for part in node.body], [ast.Return], path)

    def test_leaving_a_block_only_assigns(self):
        allowed = (ast.If, ast.Assign, ast.Attribute, ast.Name, ast.Load, ast.Store, ast.BoolOp, ast.And, ast.Compare,
                   ast.Is, ast.IsNot, ast.Constant, ast.BinOp, ast.Add, ast.List, ast.Tuple)
        for path, tree in trees():
            for node in functions_of(tree):
                if node.name == "__exit__":
                    for statement in node.body:
                        for part in ast.walk(statement):
                            self.assertIsInstance(part, allowed, f"{path.name}:{node.lineno}")

    def test_a_length_is_counted(self):
        for path, tree in trees():
            for node in functions_of(tree):
                if node.name == "__len__":
                    for part in ast.walk(node):
                        if isinstance(part, ast.Return):
                            self.assertEqual(called(part.value), "len", path)


if __name__ == "__main__":
    unittest.main()
