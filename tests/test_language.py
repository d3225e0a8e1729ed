"""The package's files keep to those rules of LANGUAGE.md that can be seen by a walk of their trees."""

import ast
import builtins
import pathlib
import re
import unittest

PACKAGE = pathlib.Path(__file__).resolve().parent.parent / "scanplaces"
FILES = sorted(PACKAGE.rglob("*.py"))

# L6 and L7, L4 and L5: what may stand in a tree at all.
NODES = """
Module Import ImportFrom alias FunctionDef arguments arg Lambda ClassDef Expr Assign AugAssign AnnAssign
If While For Return Break Continue Pass Raise Try ExceptHandler Call keyword Attribute Subscript Slice
Name Constant List Tuple Dict Set IfExp BinOp UnaryOp BoolOp Compare ListComp comprehension JoinedStr
FormattedValue Load Store Add Sub Mult FloorDiv Mod Pow BitAnd BitOr BitXor LShift RShift Invert Not USub
UAdd And Or Eq NotEq Lt LtE Gt GtE Is IsNot In NotIn
""".split()

# L8.
OWN_NAMES = """
len range enumerate zip min max sum abs sorted reversed int str bool list tuple dict set frozenset
isinstance ord repr any all divmod Exception ValueError TypeError KeyError IndexError LookupError
ZeroDivisionError ArithmeticError OverflowError RuntimeError NotImplementedError AttributeError
StopIteration
""".split()

# L25.
METHODS = """
append clear copy count endswith extend find get index insert isalnum isalpha isdigit islower isspace
isupper items join keys ljust lower lstrip partition pop remove replace reverse rfind rjust rpartition
rsplit rstrip setdefault split splitlines startswith strip update upper values zfill bit_length
""".split()

# L17.
WORDS = """
type typing typing_extensions enum Enum IntEnum StrEnum Flag IntFlag Generic Protocol ABC ABCMeta
namedtuple NamedTuple TypedDict TYPE_CHECKING abstractmethod
""".split()
UNUSED = """
register mro elements open input version_info with_traceback add_note attrgetter breakpoint builtins
compile copyright credits delattr dir eval exec exit gc getattr globals hasattr help id importlib license
locals methodcaller os quit setattr super type vars sys format format_map
""".split()


def trees():
    return [(path.name, ast.parse(path.read_text())) for path in FILES]


def nodes(kind):
    return [(name, node) for name, tree in trees() for node in ast.walk(tree) if isinstance(node, kind)]


def own_names(tree):
    """All names that a file gives itself: defs, classes, imports, parameters, what it assigns."""
    names = set()
    for node in ast.walk(tree):
        if isinstance(node, (ast.FunctionDef, ast.ClassDef)):
            names.add(node.name)
        elif isinstance(node, ast.alias):
            names.add(node.asname or node.name)
        elif isinstance(node, ast.arg):
            names.add(node.arg)
        elif isinstance(node, ast.Name) and isinstance(node.ctx, ast.Store):
            names.add(node.id)
    return names


class Files(unittest.TestCase):
    def test_only_python_files_with_plain_names(self):
        self.assertIn("places.py", [path.name for path in FILES])
        for path in PACKAGE.rglob("*"):
            if "__pycache__" not in path.parts:
                self.assertRegex(path.name, r"^[a-z0-9_]+\.py$")
                self.assertNotIn(path.stem, vars(builtins), path.name)

    def test_sizes_and_signs(self):
        for path in FILES:
            lines = path.read_text().split("\n")
            self.assertLessEqual(len(lines), 399, path.name)
            for line in lines:
                self.assertLessEqual(len(line), 120, path.name)
                self.assertRegex(line, r"^[ -~]*$", path.name)
        for name, node in nodes(ast.FunctionDef):
            self.assertLessEqual(node.end_lineno - node.lineno + 1, 40, (name, node.name))

    def test_words_that_stand_nowhere(self):
        for path in FILES:
            found = re.findall(r"\w+", path.read_text())
            self.assertEqual([word for word in found if word in WORDS], [], path.name)


class Trees(unittest.TestCase):
    def test_only_what_the_language_has(self):
        for name, node in nodes(ast.AST):
            self.assertIn(node.__class__.__name__, NODES, name)

    def test_assignments_have_one_target_and_loops_no_else(self):
        for name, node in nodes(ast.Assign):
            self.assertEqual(len(node.targets), 1, name)
        for name, node in nodes((ast.For, ast.While)):
            self.assertEqual(node.orelse, [], name)
        for name, node in nodes(ast.ListComp):
            self.assertLessEqual(len(node.generators) + len(node.generators[0].ifs), 2, name)

    def test_no_floats_no_bytes(self):
        for name, node in nodes(ast.Constant):
            self.assertIn(node.value.__class__.__name__, ("int", "str", "bool", "NoneType"), name)

    def test_imports_are_the_package_s_own_and_end(self):
        drawn = {}
        for name, tree in trees():
            drawn[name] = []
            for node in ast.walk(tree):
                self.assertNotIsInstance(node, ast.Import, name)
                if isinstance(node, ast.ImportFrom):
                    self.assertRegex(node.module, r"^scanplaces\.\w+$", name)
                    self.assertIn(node, tree.body, name)
                    drawn[name].append(node.module.split(".")[1] + ".py")
        while drawn:
            ended = [name for name in drawn if not any(other in drawn for other in drawn[name])]
            self.assertTrue(ended, f"files that draw from one another: {sorted(drawn)}")
            for name in ended:
                del drawn[name]

    def test_python_s_own_names(self):
        for name, tree in trees():
            own = own_names(tree)
            self.assertEqual([word for word in own if word in vars(builtins)], [], name)
            for word in own:
                self.assertRegex(word, r"^([A-Za-z][A-Za-z0-9_]*|__init__|__version__|__all__)$", name)
                self.assertNotIn(word, UNUSED, name)
            for node in ast.walk(tree):
                if isinstance(node, ast.Name) and node.id not in own:
                    self.assertIn(node.id, OWN_NAMES, name)

    def test_methods(self):
        own = {node.name for name, node in nodes(ast.FunctionDef)}
        for name, node in nodes(ast.Attribute):
            self.assertNotIn(node.attr, UNUSED, name)
        for name, node in nodes(ast.Call):
            if isinstance(node.func, ast.Attribute):
                self.assertIn(node.func.attr, METHODS + sorted(own), name)

    def test_lists_dicts_and_tuples_of_the_top_are_handed_on_as_copies_alone(self):
        kept = set()
        for name, tree in trees():
            for node in tree.body:
                if isinstance(node, ast.Assign) and isinstance(node.value, (ast.Tuple, ast.List, ast.Dict)):
                    kept.add(node.targets[0].id)
        self.assertIn("KIND_LETTERS", kept)
        for name, node in nodes((ast.Call, ast.Return)):
            if isinstance(node, ast.Return):
                handed_on = [node.value]
            elif isinstance(node.func, ast.Name) and node.func.id in ("len", "list", "tuple", "dict", "enumerate"):
                handed_on = []
            else:
                handed_on = node.args
            found = [value.id for value in handed_on if isinstance(value, ast.Name) and value.id in kept]
            self.assertEqual(found, [], name)

    def test_sets_are_not_kept(self):
        allowed = set()
        for name, node in nodes((ast.Compare, ast.Call)):
            if isinstance(node, ast.Compare):
                inner = [node.left] + node.comparators
            elif isinstance(node.func, ast.Name) and node.func.id in ("len", "sorted"):
                inner = node.args
            else:
                continue
            for value in inner:
                allowed.update((name, part.lineno, part.col_offset) for part in self.set_parts(value))
        for name, node in nodes(ast.Call):
            if isinstance(node.func, ast.Name) and node.func.id in ("set", "frozenset"):
                self.assertIn((name, node.lineno, node.col_offset), allowed)
        self.assertEqual([name for name, node in nodes(ast.Set)], [])

    def set_parts(self, value):
        """The value, or what stands on both sides of its signs."""
        if isinstance(value, ast.BinOp):
            return self.set_parts(value.left) + self.set_parts(value.right)
        return [value]

    def test_parameters_are_plain(self):
        for name, node in nodes((ast.FunctionDef, ast.Lambda)):
            arguments = node.args
            self.assertEqual((arguments.vararg, arguments.kwarg), (None, None), name)
            self.assertEqual(arguments.kwonlyargs + arguments.posonlyargs, [], name)
        for name, node in nodes((ast.FunctionDef, ast.ClassDef)):
            self.assertEqual(node.decorator_list, [], name)


if __name__ == "__main__":
    unittest.main()
