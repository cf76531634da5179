"""The rules of the language that can be seen in the files of the package."""

import ast
import builtins
import re
import unittest
from pathlib import Path

PACKAGE = Path(__file__).resolve().parent.parent / "latepresses"
NAME = PACKAGE.name
BUILTINS = set(
    "len range enumerate zip min max sum abs sorted reversed int str bool bytes list tuple dict set frozenset "
    "isinstance ord repr any all divmod iter next Exception ValueError TypeError KeyError IndexError LookupError "
    "ZeroDivisionError ArithmeticError OverflowError RuntimeError NotImplementedError".split())
VALUE_METHODS = set(
    "append clear copy count endswith extend find get index insert isalnum isalpha isdigit islower isspace isupper "
    "items join keys ljust lower lstrip partition pop remove replace reverse rfind rjust rpartition rsplit rstrip "
    "setdefault split splitlines startswith strip update upper values zfill bit_length sort add discard".split())
CHANGING = ("append", "clear", "extend", "insert", "pop", "remove", "reverse", "setdefault", "update", "sort")
BARRED_WORDS = set(
    "typing typing_extensions enum Enum IntEnum StrEnum Flag IntFlag Generic Protocol ABC ABCMeta namedtuple "
    "NamedTuple TypedDict TYPE_CHECKING abstractmethod register mro elements open input law version_info "
    "with_traceback add_note type _wall _WallAttr".split())
STATEMENTS = (ast.FunctionDef, ast.ClassDef, ast.Return, ast.Delete, ast.Assign, ast.AugAssign, ast.For, ast.While,
              ast.If, ast.Raise, ast.Try, ast.Assert, ast.ImportFrom, ast.Expr, ast.Pass, ast.Break, ast.Continue)
EXPRESSIONS = (ast.BoolOp, ast.BinOp, ast.UnaryOp, ast.IfExp, ast.Dict, ast.ListComp, ast.GeneratorExp, ast.DictComp,
               ast.Compare, ast.Call, ast.Constant, ast.Attribute, ast.Subscript, ast.Starred, ast.Name, ast.List,
               ast.Tuple, ast.Slice, ast.Lambda, ast.JoinedStr, ast.FormattedValue)
FILES = sorted(PACKAGE.glob("*.py"))
TREES = {file.stem: ast.parse(file.read_text()) for file in FILES}
METHODS = [node for tree in TREES.values() for part in tree.body if isinstance(part, ast.ClassDef)
           for node in part.body if isinstance(node, ast.FunctionDef)]
PROPERTIES = [node for node in METHODS if [ast.unparse(part) for part in node.decorator_list] == ["property"]]
# The interface calls a function and an argument of others of its file alike; only classes and imports are barred.
ALIKE = {("letters", "letter")}


def bound_at_top(tree):
    """The names that a file binds, in order."""
    names = []
    for node in tree.body:
        if isinstance(node, (ast.FunctionDef, ast.ClassDef)):
            names.append(node.name)
        elif isinstance(node, ast.Assign):
            names.extend(target.id for target in node.targets)
        elif isinstance(node, ast.ImportFrom):
            names.extend(alias.name for alias in node.names)
    return names


def imports(tree):
    return [node for node in tree.body if isinstance(node, ast.ImportFrom)]


def functions(tree):
    return [node for node in ast.walk(tree) if isinstance(node, ast.FunctionDef)]


def local_names(function):
    """Parameters, and whatever is assigned in a function."""
    names = {argument.arg for argument in ast.walk(function) if isinstance(argument, ast.arg)}
    return names | {node.id for node in ast.walk(function) if isinstance(node, ast.Name)
                    and not isinstance(node.ctx, ast.Load)}


class TestFiles(unittest.TestCase):
    def test_names_of_files(self):
        others = [path.name for path in PACKAGE.iterdir() if path.suffix != ".py" and path.name != "__pycache__"]
        self.assertEqual(others, [])
        for file in FILES:
            self.assertTrue(re.fullmatch(r"[a-z][a-z0-9_]*|__init__", file.stem), file)
            self.assertNotIn(file.stem, dir(builtins))

    def test_characters_and_sizes(self):
        for file in FILES:
            text = file.read_text()
            self.assertTrue(all(sign == "\n" or " " <= sign <= "~" for sign in text), file)
            self.assertLessEqual(len(text.splitlines()), 399, file)
            self.assertLessEqual(max(len(line) for line in text.splitlines()), 120, file)
            self.assertTrue(text.endswith("\n"), file)
            for function in functions(TREES[file.stem]):
                self.assertLessEqual(function.end_lineno - function.lineno + 1, 40, function.name)

    def test_barred_words(self):
        for file in FILES:
            words = set(re.findall(r"\w+", file.read_text()))
            self.assertEqual(words & BARRED_WORDS, set(), file)

    def test_no_string_has_a_percent_sign_or_a_strange_escape(self):
        for name, tree in TREES.items():
            for node in ast.walk(tree):
                if isinstance(node, ast.Constant) and isinstance(node.value, str):
                    self.assertNotIn("%", node.value, name)
                self.assertFalse(isinstance(node, ast.Constant) and isinstance(node.value, (float, complex)), name)


class TestTop(unittest.TestCase):
    def test_only_plain_statements_at_the_top(self):
        for name, tree in TREES.items():
            self.assertTrue(ast.get_docstring(tree), name)
            for node in tree.body[1:]:
                self.assertIsInstance(node, (ast.ImportFrom, ast.FunctionDef, ast.ClassDef, ast.Assign), name)
                if isinstance(node, ast.Assign):
                    self.assertEqual(len(node.targets), 1)
                    ast.literal_eval(node.value)

    def test_each_name_is_bound_once(self):
        for name, tree in TREES.items():
            names = bound_at_top(tree)
            self.assertEqual(len(names), len(set(names)), name)
            self.assertFalse(set(names) & set(dir(builtins)), name)

    def test_imports(self):
        for name, tree in TREES.items():
            body = [node for node in tree.body if not isinstance(node, ast.Expr)]
            self.assertEqual(body[:len(imports(tree))], imports(tree), name)
            used = {node.id for node in ast.walk(tree) if isinstance(node, ast.Name)}
            for node in imports(tree):
                self.assertEqual((node.level, node.module.split(".")[0], node.module.count(".")), (0, NAME, 1))
                other = TREES[node.module.split(".")[1]]
                own = set(bound_at_top(other)) - {alias.name for there in imports(other) for alias in there.names}
                for alias in node.names:
                    self.assertIsNone(alias.asname)
                    self.assertIn(alias.name, own, name)
                    self.assertIn(alias.name, used, name)

    def test_no_file_imports_itself_by_way_of_others(self):
        before = {name: {node.module.split(".")[1] for node in imports(tree)} for name, tree in TREES.items()}
        while before:
            free = [name for name, others in before.items() if not others & set(before)]
            self.assertTrue(free, before)
            before = {name: others for name, others in before.items() if name not in free}


class TestCode(unittest.TestCase):
    def test_only_the_statements_and_expressions_of_the_subset(self):
        for name, tree in TREES.items():
            for node in ast.walk(tree):
                if isinstance(node, ast.stmt):
                    self.assertIsInstance(node, STATEMENTS, name)
                elif isinstance(node, ast.expr):
                    self.assertIsInstance(node, EXPRESSIONS, name)
                self.assertFalse(isinstance(node, (ast.Div, ast.MatMult)), name)
                if node not in PROPERTIES:
                    self.assertEqual(getattr(node, "decorator_list", []), [], name)

    def test_properties_only_return_something(self):
        stored = {node.attr for tree in TREES.values() for node in ast.walk(tree)
                  if isinstance(node, ast.Attribute) and not isinstance(node.ctx, ast.Load)}
        methods = {node.name for node in METHODS if node not in PROPERTIES}
        for node in PROPERTIES:
            self.assertEqual([argument.arg for argument in node.args.args], ["self"], node.name)
            self.assertFalse(node.name in stored | methods | VALUE_METHODS, node.name)
            for part in node.body[1:]:
                self.assertIsInstance(part, (ast.Assign, ast.Return), node.name)
                for inner in ast.walk(part):
                    self.assertFalse(isinstance(inner, ast.Call) and isinstance(inner.func, ast.Attribute), node.name)
                    self.assertFalse(isinstance(inner, ast.Attribute) and not isinstance(inner.ctx, ast.Load),
                                     node.name)

    def test_methods_and_attributes_have_names_of_their_own(self):
        for name, tree in TREES.items():
            for part in [part for part in tree.body if isinstance(part, ast.ClassDef)]:
                methods = [node.name for node in part.body if isinstance(node, ast.FunctionDef)]
                stored = {node.attr for node in ast.walk(part) if isinstance(node, ast.Attribute)
                          and not isinstance(node.ctx, ast.Load)}
                self.assertEqual(len(methods), len(set(methods)), part.name)
                self.assertEqual(set(methods) & stored, set(), part.name)

    def test_is_stands_beside_none_true_and_false(self):
        for name, tree in TREES.items():
            for node in ast.walk(tree):
                if isinstance(node, ast.Compare) and any(isinstance(op, (ast.Is, ast.IsNot)) for op in node.ops):
                    self.assertTrue(all(isinstance(side, ast.Constant) and side.value in (None, True, False)
                                        for side in node.comparators), name)

    def test_names_of_parameters_and_variables(self):
        for name, tree in TREES.items():
            barred = {alias.name for node in imports(tree) for alias in node.names}
            barred |= {node.name for node in tree.body if isinstance(node, (ast.FunctionDef, ast.ClassDef))}
            barred |= set(dir(builtins))
            barred -= {alike for file, alike in ALIKE if file == name}
            for function in functions(tree):
                self.assertEqual(local_names(function) & barred, set(), (name, function.name))

    def test_only_some_builtins(self):
        for name, tree in TREES.items():
            known = set(bound_at_top(tree)) | {"self", "property"}
            for function in functions(tree):
                for node in ast.walk(function):
                    if isinstance(node, ast.Name) and isinstance(node.ctx, ast.Load):
                        self.assertIn(node.id, known | local_names(function) | BUILTINS, (name, function.name))

    def test_only_some_methods(self):
        own = {node.name for tree in TREES.values() for part in tree.body if isinstance(part, ast.ClassDef)
               for node in part.body if isinstance(node, ast.FunctionDef)}
        for name, tree in TREES.items():
            for node in ast.walk(tree):
                if isinstance(node, ast.Call) and isinstance(node.func, ast.Attribute):
                    self.assertIn(node.func.attr, VALUE_METHODS | own, name)

    def test_calls_have_no_stars(self):
        for name, tree in TREES.items():
            for node in ast.walk(tree):
                if isinstance(node, ast.Call):
                    self.assertFalse(any(isinstance(argument, ast.Starred) for argument in node.args), name)

    def test_what_a_loop_goes_over_is_not_changed_in_it(self):
        for name, tree in TREES.items():
            for loop in [node for node in ast.walk(tree) if isinstance(node, ast.For)]:
                over = {ast.unparse(node) for node in ast.walk(loop.iter)
                        if isinstance(node, (ast.Name, ast.Attribute))}
                for node in ast.walk(loop):
                    if isinstance(node, ast.Call) and isinstance(node.func, ast.Attribute) \
                            and node.func.attr in CHANGING:
                        self.assertNotIn(ast.unparse(node.func.value), over, name)

    def test_each_function_of_the_package_is_used_or_offered(self):
        used = {node.id for tree in TREES.values() for node in ast.walk(tree)
                if isinstance(node, ast.Name) and isinstance(node.ctx, ast.Load)}
        for name, tree in TREES.items():
            for function in [node for node in tree.body if isinstance(node, ast.FunctionDef)]:
                if function.name.startswith("_"):
                    self.assertIn(function.name, used, name)
