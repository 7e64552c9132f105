"""The rules of LANGUAGE.md that a glance at the code of the package can tell."""

import ast
import pathlib
import re
import unittest

FOLDER = pathlib.Path(__file__).resolve().parent.parent / "keyactions"
FILES = sorted(FOLDER.rglob("*.py"))

BUILTINS = """len range enumerate zip min max sum abs sorted reversed int str bool list tuple dict set isinstance ord repr any
all divmod ValueError KeyError LookupError RuntimeError IndexError OverflowError property""".split()
METHODS = """append clear copy count endswith extend find get index insert isalnum isalpha isdigit islower isspace isupper
items join keys ljust lower lstrip partition pop remove replace reverse rfind rjust rpartition rsplit rstrip setdefault
split splitlines startswith strip update upper values zfill bit_length removeprefix removesuffix""".split()
BARRED = """type typing typing_extensions enum Enum IntEnum StrEnum Flag IntFlag Generic Protocol ABC ABCMeta namedtuple
NamedTuple TypedDict TYPE_CHECKING abstractmethod""".split()
NOWHERE = "register mro elements open input law version_info with_traceback add_note format format_map".split()
NO_NAMES = """breakpoint compile delattr dir eval exec exit getattr globals hasattr help id locals setattr super type vars hash
next map filter iter round bytes chr frozenset print object""".split()
DUNDERS = "__init__ __eq__ __repr__ __str__ __len__ __enter__ __exit__ __contains__".split()
STATEMENTS = (
    ast.Assign, ast.If, ast.While, ast.For, ast.Return, ast.Break, ast.Continue, ast.Pass, ast.Raise, ast.Delete, ast.With,
    ast.Expr, ast.FunctionDef, ast.ClassDef, ast.ImportFrom, ast.AugAssign, ast.Try, ast.Assert, ast.Nonlocal, ast.Match,
)


def trees():
    return [(path.name, ast.parse(path.read_text())) for path in FILES]


def nodes(*kinds):
    return [(name, node) for name, tree in trees() for node in ast.walk(tree) if isinstance(node, kinds)]


def heads_over_ranges():
    return [node for _, node in nodes(ast.For)
            if isinstance(node.iter, ast.Call) and isinstance(node.iter.func, ast.Name) and node.iter.func.id == "range"]


def docstrings(tree):
    found = []
    for node in ast.walk(tree):
        if isinstance(node, (ast.Module, ast.ClassDef, ast.FunctionDef)) and ast.get_docstring(node) is not None:
            found.append(node.body[0].value)
    return found


def is_plain(node):
    """A name, an attribute off a name, a literal, or a list or tuple of these."""
    if isinstance(node, (ast.List, ast.Tuple)):
        return all(is_plain(part) for part in node.elts)
    return isinstance(node, (ast.Name, ast.Constant)) or isinstance(node, ast.Attribute) and isinstance(node.value, ast.Name)


class Files(unittest.TestCase):
    def test_the_folder_holds_plain_files_alone(self):
        found = [path for path in FOLDER.rglob("*") if "__pycache__" not in path.parts]
        self.assertEqual(FILES, sorted(found))
        for path in FILES:
            self.assertRegex(path.name, "^([a-z][a-z0-9_]*|__init__)[.]py$")

    def test_sizes_and_characters(self):
        for path in FILES:
            text = path.read_bytes().decode("ascii")
            self.assertLessEqual(set(text), {chr(code) for code in range(32, 127)} | {"\n"}, path.name)
            lines = text.split("\n")
            self.assertLessEqual(len(lines), 399, path.name)
            for at, line in enumerate(lines):
                self.assertLessEqual(len(line), 120, (path.name, at + 1))
                self.assertEqual(line.rstrip(), line, (path.name, at + 1))

    def test_functions_have_at_most_40_lines(self):
        for name, node in nodes(ast.FunctionDef):
            self.assertLessEqual(node.end_lineno - node.lineno + 1, 40, (name, node.name))

    def test_everything_has_a_docstring_or_is_plain(self):
        for name, tree in trees():
            self.assertIsNotNone(ast.get_docstring(tree), name)
        for name, node in nodes(ast.ClassDef):
            self.assertIsNotNone(ast.get_docstring(node), (name, node.name))


class Code(unittest.TestCase):
    def test_module_level(self):
        for name, tree in trees():
            bound = []
            for node in tree.body:
                self.assertIsInstance(node, (ast.Expr, ast.ImportFrom, ast.FunctionDef, ast.ClassDef, ast.Assign), name)
                if isinstance(node, ast.ImportFrom):
                    bound += [part.name for part in node.names]
                elif isinstance(node, ast.Assign):
                    self.assertEqual(1, len(node.targets))
                    bound.append(node.targets[0].id)
                    self.check_value(node.value, bound)
                elif isinstance(node, ast.Expr):
                    self.assertIs(tree.body[0], node)
                else:
                    bound.append(node.name)
            self.assertEqual(len(set(bound)), len(bound), name)

    def check_value(self, node, bound):
        """A value at module level is plain; a dict there may have functions that are defined above it."""
        if isinstance(node, ast.Dict):
            for part in [*node.keys, *node.values]:
                if not (isinstance(part, ast.Name) and part.id in bound):
                    ast.literal_eval(part)
        else:
            ast.literal_eval(node)

    def test_imports_name_the_file_that_defines(self):
        homes = {name: {node.name for node in tree.body if isinstance(node, (ast.FunctionDef, ast.ClassDef))}
                 | {node.targets[0].id for node in tree.body if isinstance(node, ast.Assign)} for name, tree in trees()}
        edges = {}
        for name, node in nodes(ast.Import, ast.ImportFrom):
            self.assertIsInstance(node, ast.ImportFrom, name)
            self.assertEqual(0, node.level)
            if node.module == "itertools":
                self.assertEqual(["combinations"], [part.name for part in node.names])
                continue
            self.assertRegex(node.module, "^keyactions[.][a-z]+$")
            home = node.module.split(".")[1] + ".py"
            edges.setdefault(name, set()).add(home)
            for part in node.names:
                self.assertIsNone(part.asname)
                self.assertIn(part.name, homes[home])
        while edges:
            free = [name for name in edges if not edges[name] & set(edges)]
            self.assertTrue(free, "files import from each other")
            for name in free:
                del edges[name]

    def test_no_import_is_idle(self):
        for name, tree in trees():
            used = {node.id for node in ast.walk(tree) if isinstance(node, ast.Name)}
            for node in ast.walk(tree):
                if isinstance(node, ast.ImportFrom):
                    for part in node.names:
                        self.assertIn(part.name, used, name)

    def test_statements(self):
        for name, node in nodes(ast.stmt):
            self.assertIsInstance(node, STATEMENTS, (name, node.lineno))

    def test_decorators(self):
        for name, node in nodes(ast.FunctionDef, ast.ClassDef):
            for decorator in node.decorator_list:
                self.assertEqual("property", ast.unparse(decorator), name)

    def test_names(self):
        for name, tree in trees():
            defined = {node.name for node in ast.walk(tree) if isinstance(node, (ast.FunctionDef, ast.ClassDef))}
            bound = {node.id for node in ast.walk(tree) if isinstance(node, ast.Name) and not isinstance(node.ctx, ast.Load)}
            bound |= {node.arg for node in ast.walk(tree) if isinstance(node, ast.arg)}
            imported = {part.name for node in ast.walk(tree) if isinstance(node, ast.ImportFrom) for part in node.names}
            classes = {node.name for node in ast.walk(tree) if isinstance(node, ast.ClassDef)}
            for word in defined | bound | imported:
                self.assertTrue(word in DUNDERS or not word.startswith("__"), (name, word))
                self.assertNotIn(word, BUILTINS + NOWHERE + NO_NAMES, name)
            self.assertFalse(bound & (imported | classes), name)
            read = {node.id for node in ast.walk(tree) if isinstance(node, ast.Name)}
            self.assertLessEqual(read, defined | bound | imported | set(BUILTINS), name)
            self.assertNotIn("_", {node.id for node in ast.walk(tree)
                                   if isinstance(node, ast.Name) and isinstance(node.ctx, ast.Load)})

    def test_attributes(self):
        methods = {node.name for _, node in nodes(ast.FunctionDef)}
        assigned = {node.attr for _, node in nodes(ast.Attribute) if isinstance(node.ctx, ast.Store)} | {"ACTIONS"}
        for name, node in nodes(ast.Attribute):
            self.assertIn(node.attr, methods | assigned | set(METHODS) | {"__init__"}, (name, node.lineno))
            self.assertNotIn(node.attr, NOWHERE, name)
        for word in ("items", "keys", "values", "pop", "update", "append", "clear", "extend", "insert", "remove", "reverse",
                     "setdefault", "sort", "args", "encode", "decode", "hex", "fromhex", "format"):
            self.assertNotIn(word, assigned)

    def test_no_name_is_a_method_and_an_attribute(self):
        methods = {part.name for _, node in nodes(ast.ClassDef) for part in node.body if isinstance(part, ast.FunctionDef)}
        assigned = {node.attr for _, node in nodes(ast.Attribute) if isinstance(node.ctx, ast.Store)}
        self.assertEqual(set(), methods & assigned)

    def test_strings(self):
        for name, tree in trees():
            told = docstrings(tree)
            for node in ast.walk(tree):
                if isinstance(node, ast.Constant) and isinstance(node.value, str):
                    self.assertNotIn("%", node.value, (name, node.lineno))
                    if node not in told:
                        for word in re.findall("[A-Za-z_]+", node.value):
                            self.assertFalse(word in BARRED and word != "type", (name, word))

    def test_values(self):
        for name, node in nodes(ast.Constant):
            self.assertIsInstance(node.value, (int, str, bool, None.__class__), (name, node.lineno))
        self.assertEqual([], nodes(ast.Div, ast.MatMult, ast.Await, ast.Global))

    def test_is_stands_with_none_and_bools_alone(self):
        for name, node in nodes(ast.Compare):
            for sign, part in zip(node.ops, node.comparators):
                if isinstance(sign, (ast.Is, ast.IsNot)):
                    self.assertIsInstance(part, ast.Constant, (name, node.lineno))

    def test_sets_are_written_in_len_and_sorted_alone(self):
        inner = set()
        for _, node in nodes(ast.Call):
            if isinstance(node.func, ast.Name) and node.func.id in ("len", "sorted"):
                inner.update(ast.unparse(part) for part in node.args)
        for name, node in nodes(ast.SetComp, ast.Call):
            if isinstance(node, ast.SetComp) or isinstance(node.func, ast.Name) and node.func.id == "set":
                self.assertIn(ast.unparse(node), inner, (name, node.lineno))

    def test_calls_with_stars(self):
        for name, node in nodes(ast.Call):
            stars = [at for at, part in enumerate(node.args) if isinstance(part, ast.Starred)]
            self.assertNotIn(None, [part.arg for part in node.keywords], (name, node.lineno))
            if stars:
                values = [part.value if isinstance(part, ast.Starred) else part for part in node.args[stars[0]:]]
                for value in values + [part.value for part in node.keywords]:
                    self.assertTrue(is_plain(value), (name, node.lineno, ast.unparse(value)))

    def test_combinations_stand_in_loops_over_a_list_and_a_number_of_a_range(self):
        heads = [node.iter for _, node in nodes(ast.For)]
        numbers = [node.target.id for node in heads_over_ranges()]
        for name, node in nodes(ast.Call):
            if isinstance(node.func, ast.Name) and node.func.id == "combinations":
                self.assertIn(ast.dump(node), [ast.dump(head) for head in heads], name)
                self.assertEqual([ast.Name, ast.Name], [part.__class__ for part in node.args])
                self.assertIn(node.args[1].id, numbers)

    def test_any_all_and_sum_take_lists(self):
        for name, node in nodes(ast.Call):
            if isinstance(node.func, ast.Name) and node.func.id in ("any", "all", "sum", "min", "max"):
                self.assertIsInstance(node.args[0], (ast.ListComp, ast.List, ast.Name), (name, node.lineno))


if __name__ == "__main__":
    unittest.main()
