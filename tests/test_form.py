"""The form of the package: where the interface stands, and rules of the language that can be read off the code."""

import ast
import builtins
import pathlib
import re
import unittest

ROOT = pathlib.Path(__file__).parent.parent / "postedbag"
FILES = sorted(ROOT.rglob("*.py"))

# What the interface lists, by its files: functions, and classes with their methods and properties.
FUNCTIONS = {
    "base/words.py": ("is_name",),
    "base/bags.py": ("is_bag", "is_wide", "within", "added", "greatest", "least"),
    "text/texts.py": ("write_program", "read_program"),
    "run/runs.py": ("is_situation", "options"),
    "know/ways.py": ("is_way", "is_rule", "rules_of", "behind", "posted_by", "good_ways", "is_good"),
    "know/uses.py": (
        "is_uses", "posts_of", "least_steps", "least_uses", "uses_for", "choices_of", "uses_of",
    ),
    "know/gains.py": ("gains", "is_gained", "posted_any", "ends_of"),
    "plan/plans.py": ("is_plan", "end_of", "plan_of", "run_of", "joined_plans"),
    "plan/tops.py": ("is_bar",),
    "ask/covers.py": ("covers", "least_takes", "cover_paper", "is_cover_paper"),
    "ask/needs.py": ("needs", "needs_in", "is_needs"),
    "ask/places.py": (
        "is_place", "path_gains", "place_covers", "place_tops", "is_path_uses", "place_paper", "is_place_paper",
    ),
    "ask/piles.py": ("most_waiting", "is_bounded", "piles", "can_pile", "pile_plan"),
    "ask/rows.py": ("are_long", "greatest_length", "row_paper", "is_row_paper", "long_plan"),
    "compare/programs.py": ("covers_no_more", "covers_same", "extra", "more_paper", "is_more_paper"),
    "compare/posts.py": ("cuts", "is_cut", "idle_posts", "calm_cuts"),
}
CLASSES = {
    "errors.py": {name: () for name in (
        "BagError", "InvalidProgram", "InvalidBag", "InvalidMode", "InvalidRun", "InvalidWay", "InvalidPlace",
        "InvalidUses", "InvalidPlan", "InvalidOperation", "InvalidCommand", "ParseError", "UnknownName",
        "UnknownSite", "InvalidNumber", "NothingToUndo", "Refused", "TooMany",
    )},
    "base/programs.py": {
        "Procedure": ("__init__", "of", "called", "points", "moves", "__eq__", "__len__", "__str__"),
        "Program": (
            "__init__", "of", "modes", "starts", "begin", "procedures", "names", "posts", "calls", "__getitem__",
            "move", "with_starts", "with_begin", "with_procedure", "without", "without_posts", "renamed",
            "__contains__", "__len__", "__eq__", "__str__",
        ),
    },
    "run/runs.py": {
        "Run": (
            "__init__", "of", "program", "start", "choices", "situation", "situations", "mode", "bag", "taken",
            "is_between", "__add__", "back", "__len__", "__eq__", "__str__",
        ),
    },
    "house/project.py": {
        "Project": (
            "__init__", "program", "promises", "deeds", "promise", "forget", "put", "hush", "restart", "rebegin", "undo",
            "redo", "twin", "trial", "during", "__getitem__", "__contains__", "__len__", "__eq__", "__str__",
        ),
    },
    "text/shell.py": {
        "Shell": (
            "__init__", "replayed", "run", "__call__", "names", "programs", "script", "__contains__", "__len__", "__eq__",
            "__str__",
        ),
    },
    "plan/tops.py": {
        "Tops": (
            "__init__", "program", "rows", "modes", "covers", "above", "__contains__", "__len__", "__eq__", "__str__",
        ),
    },
}

# The examples give the name _ to what they have shown.
ALL_BUILTINS = set(dir(builtins)) - {"_"}
BUILTINS = set(
    "len range enumerate zip min max sum abs sorted reversed int str bool bytes list tuple dict set isinstance ord "
    "repr any all divmod pow map iter next property staticmethod classmethod Exception ValueError TypeError KeyError "
    "IndexError LookupError ZeroDivisionError ArithmeticError OverflowError RuntimeError NotImplementedError "
    "NotImplemented super".split()
)
DUNDERS = re.compile(
    "__(init|eq|repr|str|len|enter|exit|call|iter|lt|le|gt|ge|ne|r?add|r?sub|r?mul|neg|bool|contains|getitem|setitem)__"
)
NOT_USED = set("mro elements open input law version_info with_traceback add_note register id type vars dir".split())
LIBRARY = {"heapq", "math", "itertools", "collections"}
# The methods of builtin values that are used at all.
METHODS = set(
    "append bit_length clear count endswith extend get index insert isalpha isdigit items join keys partition pop reverse "
    "setdefault split startswith strip update values add discard".split()
)
CHANGING = set("append clear extend insert pop remove reverse setdefault update add discard".split())
FORBIDDEN = (
    ast.Global, ast.AsyncFunctionDef, ast.AsyncFor, ast.AsyncWith, ast.Await, ast.Import, ast.Div, ast.TryStar,
)


def trees():
    """The files of the package with their syntax trees."""
    return [(path.relative_to(ROOT).as_posix(), ast.parse(path.read_text())) for path in FILES]


def names_bound(tree):
    """All names that a file binds: functions, classes, parameters, variables and attributes that it assigns."""
    found = []
    for node in ast.walk(tree):
        if isinstance(node, (ast.FunctionDef, ast.ClassDef)):
            found.append(node.name)
        elif isinstance(node, ast.arg):
            found.append(node.arg)
        elif isinstance(node, ast.Name) and isinstance(node.ctx, ast.Store):
            found.append(node.id)
        elif isinstance(node, ast.ImportFrom):
            found.extend(alias.asname or alias.name for alias in node.names)
    return found


class InterfaceTest(unittest.TestCase):
    def test_functions_stand_in_their_files(self):
        for file, names in FUNCTIONS.items():
            body = ast.parse((ROOT / file).read_text()).body
            defined = [node.name for node in body if isinstance(node, ast.FunctionDef)]
            for name in names:
                self.assertEqual(defined.count(name), 1, (file, name))

    def test_classes_and_their_methods_stand_in_their_files(self):
        for file, classes in CLASSES.items():
            body = ast.parse((ROOT / file).read_text()).body
            found = {node.name: node for node in body if isinstance(node, ast.ClassDef)}
            for name, methods in classes.items():
                defined = [node.name for node in found[name].body if isinstance(node, ast.FunctionDef)]
                for method in methods:
                    self.assertEqual(defined.count(method), 1, (file, name, method))


class FilesTest(unittest.TestCase):
    def test_the_folder_holds_only_files_of_the_package(self):
        for path in ROOT.rglob("*"):
            if "__pycache__" in path.parts:
                continue
            if path.is_dir():
                self.assertTrue((path / "__init__.py").exists(), path)
            else:
                self.assertRegex(path.name, r"\A[a-z_]+\.py\Z")

    def test_sizes_and_characters(self):
        for path in FILES:
            text = path.read_text(encoding="utf-8")
            self.assertRegex(text, r"\A[\n -~]*\Z", path)
            lines = text.split("\n")
            self.assertLessEqual(len(lines), 399, path)
            self.assertLessEqual(max(map(len, lines)), 120, path)

    def test_lengths_of_functions(self):
        for file, tree in trees():
            for node in ast.walk(tree):
                if isinstance(node, ast.FunctionDef):
                    self.assertLessEqual(node.end_lineno - node.lineno + 1, 40, (file, node.name))


class LanguageTest(unittest.TestCase):
    def test_imports(self):
        modules = {path.relative_to(ROOT.parent).with_suffix("").as_posix().replace("/", ".") for path in FILES}
        for file, tree in trees():
            for node in ast.walk(tree):
                if isinstance(node, ast.ImportFrom):
                    self.assertEqual(node.level, 0, file)
                    self.assertIn(node.module, modules | LIBRARY, file)
                    self.assertIn(node, tree.body, file)

    def test_module_level(self):
        allowed = (ast.ImportFrom, ast.FunctionDef, ast.ClassDef, ast.Assign)
        for file, tree in trees():
            self.assertIsNotNone(ast.get_docstring(tree), file)
            for node in tree.body[1:]:
                self.assertIsInstance(node, allowed, file)
            bound = [node.targets[0].id for node in tree.body if isinstance(node, ast.Assign)]
            self.assertEqual(len(bound), len(set(bound)), file)

    def test_nothing_that_is_forbidden(self):
        for file, tree in trees():
            for node in ast.walk(tree):
                self.assertNotIsInstance(node, FORBIDDEN, file)
                if isinstance(node, ast.Constant):
                    self.assertNotIsInstance(node.value, (float, complex), file)
                if isinstance(node, ast.Attribute):
                    self.assertFalse(node.attr.startswith("__") and node.attr != "__init__", (file, node.attr))

    def test_builtins(self):
        for file, tree in trees():
            for node in ast.walk(tree):
                if isinstance(node, ast.Name) and node.id in ALL_BUILTINS:
                    self.assertIn(node.id, BUILTINS, (file, node.lineno))

    def test_names(self):
        for file, tree in trees():
            for name in names_bound(tree):
                if not DUNDERS.fullmatch(name):
                    self.assertNotIn(name, NOT_USED, file)
                    self.assertNotIn(name, ALL_BUILTINS, file)
                    self.assertRegex(name, r"\A(_?[A-Za-z][A-Za-z0-9_]*|_)\Z", file)

    def test_decorators(self):
        for file, tree in trees():
            for node in ast.walk(tree):
                if isinstance(node, (ast.FunctionDef, ast.ClassDef)):
                    for decorator in node.decorator_list:
                        self.assertIn(ast.unparse(decorator), ("property", "staticmethod", "classmethod"), file)

    def test_properties_share_no_name(self):
        properties, methods, stored = set(), set(), set()
        for _, tree in trees():
            for node in [node for node in ast.walk(tree) if isinstance(node, ast.ClassDef)]:
                for part in [part for part in node.body if isinstance(part, ast.FunctionDef)]:
                    marks = [ast.unparse(mark) for mark in part.decorator_list]
                    (properties if "property" in marks else methods).add(part.name)
            stored |= {node.attr for node in ast.walk(tree)
                       if isinstance(node, ast.Attribute) and isinstance(node.ctx, ast.Store)}
        self.assertFalse(properties & (methods | stored | METHODS))
        self.assertFalse((methods | stored) & METHODS)
        self.assertFalse(methods & stored)

    def test_names_of_imports_and_classes_mean_nothing_else(self):
        for file, tree in trees():
            taken = {alias.name for node in tree.body if isinstance(node, ast.ImportFrom) for alias in node.names}
            taken |= {node.name for node in tree.body if isinstance(node, ast.ClassDef)}
            for node in ast.walk(tree):
                if isinstance(node, ast.arg):
                    self.assertNotIn(node.arg, taken, (file, node.lineno))
                if isinstance(node, ast.Name) and isinstance(node.ctx, ast.Store):
                    self.assertNotIn(node.id, taken, (file, node.lineno))

    def test_methods(self):
        own = {node.name for _, tree in trees() for node in ast.walk(tree) if isinstance(node, ast.FunctionDef)}
        for file, tree in trees():
            for node in ast.walk(tree):
                if isinstance(node, ast.Call) and isinstance(node.func, ast.Attribute):
                    self.assertIn(node.func.attr, METHODS | own, (file, node.lineno))

    def test_sets_are_not_stored_but_in_variables(self):
        for file, tree in trees():
            for node in ast.walk(tree):
                for part in ast.iter_child_nodes(node):
                    called = isinstance(part, ast.Call) and ast.unparse(part.func) == "set"
                    if called or isinstance(part, (ast.Set, ast.SetComp)):
                        self.assertIsInstance(node, (ast.Assign, ast.Call, ast.Compare), (file, part.lineno))
                        if isinstance(node, ast.Call):
                            self.assertIn(ast.unparse(node.func), ("sorted", "len"), (file, part.lineno))

    def test_loops_do_not_change_what_they_go_over(self):
        for file, tree in trees():
            for loop in [node for node in ast.walk(tree) if isinstance(node, ast.For)]:
                names = {ast.unparse(node) for node in ast.walk(loop.iter) if isinstance(node, (ast.Name, ast.Attribute))}
                for node in [node for row in loop.body for node in ast.walk(row)]:
                    if isinstance(node, ast.Call) and isinstance(node.func, ast.Attribute):
                        if node.func.attr in CHANGING:
                            self.assertNotIn(ast.unparse(node.func.value), names, (file, node.lineno))

    def test_sort_and_percent_and_braces(self):
        for file, tree in trees():
            for node in ast.walk(tree):
                if isinstance(node, ast.Attribute):
                    self.assertNotEqual(node.attr, "sort", file)
                if isinstance(node, ast.JoinedStr):
                    inner = [part for value in node.values if isinstance(value, ast.FormattedValue)
                             for part in ast.walk(value.value)]
                    for part in inner:
                        self.assertFalse(isinstance(part, ast.Constant) and isinstance(part.value, str), file)
                if isinstance(node, ast.Constant) and isinstance(node.value, str):
                    self.assertNotIn("%", node.value, file)
                if isinstance(node, ast.BinOp) and isinstance(node.op, ast.Pow):
                    self.assertIsInstance(node.right, ast.Constant, file)

    def test_reversed_takes_what_is_plainly_a_sequence(self):
        # A class of the package has [ ], so an object of it could stand there.
        for file, tree in trees():
            for node in ast.walk(tree):
                if isinstance(node, ast.Call) and ast.unparse(node.func) == "reversed":
                    over = node.args[0]
                    called = ast.unparse(over.func) if isinstance(over, ast.Call) else ""
                    plain = called in ("list", "tuple", "sorted", "range")
                    self.assertTrue(plain or isinstance(over, (ast.List, ast.Tuple, ast.Constant)), (file, node.lineno))

    def test_inner_comprehensions_have_names_of_their_own(self):
        kinds = (ast.ListComp, ast.DictComp, ast.SetComp)
        for file, tree in trees():
            for function in [node for node in ast.walk(tree) if isinstance(node, ast.FunctionDef)]:
                every = [node for node in ast.walk(function) if isinstance(node, kinds)]
                own = {id(part) for node in every for made in node.generators for part in ast.walk(made.target)}
                names = {node.id for node in ast.walk(function)
                         if isinstance(node, ast.Name) and isinstance(node.ctx, ast.Store) and id(node) not in own}
                for outer in every:
                    taken = {part.id for made in outer.generators for part in ast.walk(made.target)
                             if isinstance(part, ast.Name)}
                    for inner in [node for node in ast.walk(outer) if isinstance(node, kinds) and node is not outer]:
                        for part in [part for made in inner.generators for part in ast.walk(made.target)]:
                            if isinstance(part, ast.Name) and part.id != "_":
                                self.assertNotIn(part.id, names | taken, (file, inner.lineno))

    def test_no_two_files_import_from_each_other(self):
        graph = {}
        for file, tree in trees():
            graph["postedbag." + file[:-3].replace("/", ".")] = {
                node.module for node in tree.body if isinstance(node, ast.ImportFrom)
            }
        done = set()
        while len(done) < len(graph):
            free = {name for name, needed in graph.items() if name not in done and not (needed & set(graph)) - done}
            self.assertTrue(free)
            done |= free

    def test_any_and_all_take_lists(self):
        for file, tree in trees():
            for node in ast.walk(tree):
                self.assertNotIsInstance(node, ast.GeneratorExp, file)


if __name__ == "__main__":
    unittest.main()
