"""The package keeps to the form that is asked of it; the numbers are those of the rules."""

import ast
import pathlib
import re
import unittest

PACKAGE = pathlib.Path(__file__).resolve().parent.parent / "feebooks"
OWN_NAMES = """len range enumerate zip min max sum abs sorted reversed int str bool list tuple dict set frozenset
isinstance ord repr any all divmod Exception ValueError TypeError KeyError IndexError LookupError ZeroDivisionError
ArithmeticError OverflowError RuntimeError NotImplementedError AttributeError StopIteration""".split()
PYTHON_NAMES = dir(__builtins__) if not isinstance(__builtins__, dict) else list(__builtins__)
METHODS = """append clear copy count endswith extend find get index insert isalnum isalpha isdigit islower isspace
isupper items join keys ljust lower lstrip partition pop remove replace reverse rfind rjust rpartition rsplit rstrip
setdefault split splitlines startswith strip update upper values zfill bit_length""".split()
NODES = """Module Expr Constant ImportFrom alias FunctionDef ClassDef arguments arg Assign Return If While For Break
Continue Pass Raise Try ExceptHandler Call Attribute Name Load Store Subscript Slice List Tuple Dict ListComp
comprehension BinOp UnaryOp BoolOp Compare IfExp Lambda JoinedStr FormattedValue keyword AugAssign Add Sub Mult FloorDiv
Mod Pow BitAnd BitOr BitXor LShift RShift Invert And Or Not USub Eq NotEq Lt LtE Gt GtE Is IsNot In NotIn""".split()
WORDS = """type typing typing_extensions enum Enum IntEnum StrEnum Flag IntFlag Generic Protocol ABC ABCMeta namedtuple
NamedTuple TypedDict TYPE_CHECKING abstractmethod""".split()
UNUSED = """register mro elements open input version_info with_traceback add_note attrgetter breakpoint builtins compile
copyright credits delattr dir eval exec exit gc getattr globals hasattr help id importlib license locals methodcaller os
quit setattr super sys vars format format_map""".split()
VALUES = "count index title find get join lower upper split strip copy add".split()
OWN_KINDS = (str, int, list, dict, set, bytes, tuple)


def trees():
    """Each file of the package with its tree."""
    return [(path.name, ast.parse(path.read_text(encoding="utf-8"))) for path in sorted(PACKAGE.glob("*.py"))]


def nodes(kind):
    """All nodes of a kind in the package, with their files' names."""
    return [(name, node) for name, tree in trees() for node in ast.walk(tree) if isinstance(node, kind)]


class Files(unittest.TestCase):
    def test_l1_l14_only_files_with_plain_names(self):
        for path in PACKAGE.iterdir():
            if path.name != "__pycache__":
                self.assertRegex(path.name, r"^[a-z][a-z0-9_]*\.py$|^__init__\.py$")
                self.assertNotIn(path.stem, PYTHON_NAMES)
        self.assertTrue((PACKAGE / "__init__.py").is_file())

    def test_l10_l14_l17_size_signs_and_words(self):
        for path in PACKAGE.glob("*.py"):
            text = path.read_text(encoding="utf-8")
            self.assertRegex(text, r"\A[ -~\n]*\Z", path.name)
            self.assertLessEqual(len(text.splitlines()), 399, path.name)
            self.assertLessEqual(max(map(len, text.splitlines())), 120, path.name)
            self.assertEqual([word for word in re.findall(r"\w+", text) if word in WORDS], [], path.name)
            self.assertNotRegex(text, "dataclass|overload|contextmanager")
        for name, node in nodes(ast.FunctionDef):
            self.assertLessEqual(node.end_lineno - node.lineno + 1, 40, (name, node.name))

    def test_l6_l7_kinds_of_code(self):
        for name, node in nodes(ast.AST):
            self.assertIn(node.__class__.__name__, NODES, (name, getattr(node, "lineno", 0)))
        for name, node in nodes(ast.Constant):
            self.assertIn(type(node.value), (int, str, bool, type(None)), (name, node.lineno))
        for name, node in nodes((ast.While, ast.For)):
            self.assertEqual(node.orelse, [], (name, node.lineno))
        for name, node in nodes(ast.Assign):
            self.assertEqual(len(node.targets), 1, (name, node.lineno))
            self.assertNotIsInstance(node.targets[0], (ast.Tuple, ast.List), (name, node.lineno))
        for name, node in nodes(ast.ListComp):
            self.assertEqual((len(node.generators), len(node.generators[0].ifs) <= 1), (1, True), (name, node.lineno))


class Imports(unittest.TestCase):
    def test_l2_l16_from_the_package_s_own_files_that_define_the_names(self):
        tops = {name[:-3]: {node.name for node in tree.body if isinstance(node, (ast.FunctionDef, ast.ClassDef))}
                | {node.targets[0].id for node in tree.body if isinstance(node, ast.Assign)} for name, tree in trees()}
        for name, node in nodes(ast.ImportFrom):
            self.assertEqual((node.level, node.module.split(".")[0]), (0, "feebooks"), name)
            for one in node.names:
                self.assertIn(one.name, tops[node.module.split(".")[1]], name)
                self.assertIsNone(one.asname)

    def test_l16_no_two_files_draw_from_one_another(self):
        draws = {name[:-3]: {node.module.split(".")[1] for node in tree.body if isinstance(node, ast.ImportFrom)}
                 for name, tree in trees()}
        while draws:
            free = [name for name in draws if not draws[name] & set(draws)]
            self.assertTrue(free, draws)
            draws = {name: draws[name] for name in draws if name not in free}

    def test_l16_the_interface_stands_in_its_file_alone(self):
        found = [(name, [arg.arg for arg in node.args.args], node.args.defaults) for name, tree in trees()
                 for node in tree.body if isinstance(node, ast.FunctionDef) and node.name == "answers"]
        self.assertEqual(found, [("desk.py", ["calls"], [])])


class Names(unittest.TestCase):
    def test_l3_l15_each_name_once_at_the_top(self):
        for name, tree in trees():
            bound = []
            for place, node in enumerate(tree.body):
                if isinstance(node, ast.Expr):
                    self.assertTrue(place == 0 and isinstance(node.value, ast.Constant), (name, node.lineno))
                elif isinstance(node, ast.ImportFrom):
                    bound.extend(one.name for one in node.names)
                elif isinstance(node, ast.Assign):
                    bound.append(node.targets[0].id)
                else:
                    bound.append(node.name)
            self.assertEqual(len(bound), len(set(bound)), name)

    def test_l8_l12_l15_l17_names(self):
        bound = [(name, node.arg) for name, node in nodes(ast.arg)]
        bound += [(name, node.id) for name, node in nodes(ast.Name) if isinstance(node.ctx, ast.Store)]
        bound += [(name, node.name) for name, node in nodes((ast.FunctionDef, ast.ClassDef, ast.ExceptHandler))]
        for name, one in bound:
            if one not in (None, "__init__"):
                self.assertRegex(one, "^[A-Za-z][A-Za-z0-9_]*$", name)
                self.assertNotIn(one, PYTHON_NAMES, name)
                self.assertNotIn(one, UNUSED, name)
        for name, node in nodes(ast.Name):
            if node.id in PYTHON_NAMES:
                self.assertIn(node.id, OWN_NAMES, (name, node.lineno))

    def test_l15_no_local_is_called_like_a_class_or_an_import(self):
        for name, tree in trees():
            tops = {one.name for node in tree.body if isinstance(node, ast.ImportFrom) for one in node.names}
            tops |= {node.name for node in tree.body if isinstance(node, ast.ClassDef)}
            inner = {node.arg for node in ast.walk(tree) if isinstance(node, ast.arg)}
            inner |= {node.id for node in ast.walk(tree)
                      if isinstance(node, ast.Name) and isinstance(node.ctx, ast.Store)}
            self.assertEqual(tops & inner, set(), name)

    def test_l18_l25_l26_methods_and_values(self):
        methods = {node.name for _, one in nodes(ast.ClassDef)
                   for node in one.body if isinstance(node, ast.FunctionDef)}
        values = {node.attr for _, node in nodes(ast.Attribute) if isinstance(node.ctx, ast.Store)}
        self.assertEqual(methods & values, set())
        for one in values | methods - {"__init__"}:
            self.assertNotIn(one, UNUSED)
            self.assertTrue(one in VALUES or not any(hasattr(kind, one) for kind in OWN_KINDS), one)
        for name, node in nodes(ast.Attribute):
            self.assertIn(node.attr, sorted(methods | values) + METHODS, (name, node.lineno))

    def test_l19_only_own_errors_are_taken(self):
        own = {node.name for _, node in nodes(ast.ClassDef)}
        for name, node in nodes(ast.ExceptHandler):
            self.assertIn(node.type.id, own, (name, node.lineno))


class Walks(unittest.TestCase):
    WALKED = "zip enumerate reversed range items keys values".split()
    WALKERS = "list tuple dict sorted sum any all enumerate zip min max".split()

    def pairs(self):
        """Each node of the package behind the node that holds it, with its file's name."""
        return [(name, over, node) for name, tree in trees() for over in ast.walk(tree)
                for node in ast.iter_child_nodes(over)]

    def test_l20_is_stands_beside_plain_values_alone(self):
        for name, node in nodes(ast.Compare):
            for sign, other in zip(node.ops, node.comparators):
                if isinstance(sign, (ast.Is, ast.IsNot)):
                    self.assertIsInstance(other, ast.Constant, (name, node.lineno))
                    self.assertIn(repr(other.value), ("None", "True", "False"), (name, node.lineno))

    def test_l22_keywords(self):
        for name, node in nodes(ast.Call):
            wanted = {"sorted": ("key", "reverse"), "min": ("key", "default"), "max": ("key", "default"),
                      "sum": ("start",), "enumerate": ("start",), "zip": ("strict",)}
            for keyword in node.keywords:
                self.assertIn(keyword.arg, wanted.get(getattr(node.func, "id", ""), ()), (name, node.lineno))

    def test_l23_walked_on_the_spot(self):
        for name, over, node in self.pairs():
            called = getattr(node, "func", None)
            if getattr(called, "id", getattr(called, "attr", "")) in self.WALKED:
                by_loop = isinstance(over, (ast.For, ast.comprehension)) and over.iter is node
                by_call = isinstance(over, ast.Call) and getattr(over.func, "id", "") in self.WALKERS
                self.assertTrue(by_loop or by_call, (name, node.lineno))

    def test_l24_sets_are_not_kept(self):
        for name, over, node in self.pairs():
            if isinstance(node, ast.Call) and getattr(node.func, "id", "") in ("set", "frozenset"):
                by_call = (isinstance(over, ast.Call) and getattr(over.func, "id", "") in ("sorted", "len")
                           and not over.keywords)
                self.assertTrue(by_call or isinstance(over, ast.Compare), (name, node.lineno))

    def test_l15_nothing_is_kept_at_the_top(self):
        for name, tree in trees():
            tops = {node.targets[0].id for node in tree.body if isinstance(node, ast.Assign)}
            for node in ast.walk(tree):
                if isinstance(node, (ast.Subscript, ast.Attribute)) and isinstance(node.ctx, ast.Store):
                    self.assertNotIn(getattr(node.value, "id", ""), tops, (name, node.lineno))
                if isinstance(node, ast.Attribute) and getattr(node.value, "id", "") in tops:
                    self.assertIn(node.attr, ("get", "items", "keys", "values", "index", "count"), (name, node.lineno))


if __name__ == "__main__":
    unittest.main()
