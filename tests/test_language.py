"""The package keeps to the part of Python that its language rules (L1 to L28) allow.

What can be seen in the written code is looked at here; each finding names its rule.
"""

import ast
import builtins
import pathlib
import re
import unittest

PACKAGE = pathlib.Path(__file__).resolve().parent.parent / "idealroom"

ALLOWED_BUILTINS = set(
    "len range enumerate zip min max sum abs sorted reversed int str bool list tuple dict set frozenset isinstance "
    "ord repr any all divmod Exception ValueError TypeError KeyError IndexError LookupError ZeroDivisionError "
    "ArithmeticError OverflowError RuntimeError NotImplementedError AttributeError StopIteration".split())
ALLOWED_METHODS = set(
    "append clear copy count endswith extend find get index insert isalnum isalpha isdigit islower isspace isupper "
    "items join keys ljust lower lstrip partition pop remove replace reverse rfind rjust rpartition rsplit rstrip "
    "setdefault split splitlines startswith strip update upper values zfill bit_length".split())
CLASS_METHODS = {"__init__", "__eq__", "__repr__", "__str__", "__len__"}
STATEMENTS = (
    ast.Assign, ast.AugAssign, ast.If, ast.While, ast.For, ast.Return, ast.Break, ast.Continue, ast.Pass, ast.Raise,
    ast.Try, ast.Expr, ast.FunctionDef, ast.ClassDef, ast.ImportFrom)
EXPRESSIONS = (
    ast.Constant, ast.Name, ast.List, ast.Tuple, ast.Dict, ast.Set, ast.BinOp, ast.UnaryOp, ast.BoolOp, ast.Compare,
    ast.IfExp, ast.Call, ast.Attribute, ast.Subscript, ast.Slice, ast.ListComp, ast.JoinedStr, ast.FormattedValue,
    ast.Lambda)
WALKED_AT_ONCE = {"zip", "enumerate", "reversed", "range"}
WALKERS = {"list", "tuple", "dict", "sorted", "sum", "any", "all", "enumerate", "zip", "min", "max"}
UNUSED_NAMES = set(
    "register mro elements open input version_info with_traceback add_note attrgetter breakpoint builtins compile "
    "copyright credits delattr dir eval exec exit gc getattr globals hasattr help id importlib license locals "
    "methodcaller os quit setattr super type vars sys format format_map chr".split())
UNUSED_WORDS = re.compile(
    r"\b(type|typing|typing_extensions|enum|Enum|IntEnum|StrEnum|Flag|IntFlag|Generic|Protocol|ABC|ABCMeta|namedtuple"
    r"|NamedTuple|TypedDict|TYPE_CHECKING|abstractmethod)\b|dataclass|overload|contextmanager")
OWN_VALUES = set(dir(str) + dir(int) + dir(list) + dir(tuple) + dir(dict) + dir(set) + dir(bytes))
FREE_VALUES = set("count index title find get join lower upper split strip copy add".split())


class File:
    """One file of the package, as it is written and as it is parsed."""

    def __init__(self, path):
        self.path = path
        self.text = path.read_bytes().decode("utf-8")
        self.tree = ast.parse(self.text)
        self.nodes = list(ast.walk(self.tree))
        self.parents = {id(child): node for node in self.nodes for child in ast.iter_child_nodes(node)}

    def of(self, *kinds):
        return [node for node in self.nodes if isinstance(node, kinds)]

    def imported(self):
        return [alias.name for node in self.of(ast.ImportFrom) for alias in node.names]

    def methods(self):
        return {node.name for kind in self.of(ast.ClassDef) for node in kind.body if isinstance(node, ast.FunctionDef)}

    def object_values(self):
        return {node.attr for node in self.of(ast.Attribute) if isinstance(node.ctx, ast.Store)}

    def own_names(self):
        top = {node.name for node in self.tree.body if isinstance(node, (ast.FunctionDef, ast.ClassDef))}
        stored = {node.id for node in self.of(ast.Name) if isinstance(node.ctx, ast.Store)}
        given = {node.arg for node in self.of(ast.arg)}
        inner = {node.name for node in self.of(ast.FunctionDef)}
        taken = {node.name for node in self.of(ast.ExceptHandler) if node.name}
        return top | stored | given | inner | taken | set(self.imported())


class Language(unittest.TestCase):

    @classmethod
    def setUpClass(cls):
        cls.files = [File(path) for path in sorted(PACKAGE.glob("*.py"))]

    def look(self, rule, findings):
        """findings(file) gives nodes or texts that break the rule."""
        for file in self.files:
            told = [f"{file.path.name}:{getattr(found, 'lineno', found)}" for found in findings(file)]
            self.assertEqual(told, [], rule)

    def test_files(self):
        names = [path.name for path in PACKAGE.iterdir() if path.name != "__pycache__"]
        self.assertIn("__init__.py", names)
        for name in names:
            self.assertRegex(name, r"^(__init__|__main__|[a-z][a-z0-9_]*)\.py$", "L1, L14")
            self.assertNotIn(name[:-3], dir(builtins), "L14")
            self.assertNotRegex(name, r"^(tests?|testing|test_.*|site|conftest|sitecustomize|usercustomize)\.py$", "L14")

    def test_signs_and_words(self):
        self.look("L14", lambda file: [
            number for number, row in enumerate(file.text.split("\n"), start=1) if not re.fullmatch(r"[ -~]*", row)])
        self.look("L10", lambda file: [
            number for number, row in enumerate(file.text.split("\n"), start=1) if len(row) > 120])
        self.look("L10", lambda file: ["whole"] if len(file.text.splitlines()) > 400 else [])
        self.look("L17", lambda file: [found.group() for found in UNUSED_WORDS.finditer(file.text)])

    def test_imports(self):
        self.look("L2, L16", lambda file: [
            node for node in file.of(ast.ImportFrom)
            if node.level != 0 or not (node.module or "").startswith("idealroom.")
            or any(alias.name == "*" or alias.asname for alias in node.names) or node not in file.tree.body])
        tops = {file.path.stem: {node.name for node in file.tree.body if hasattr(node, "name")} | {
            target.id for node in file.tree.body if isinstance(node, ast.Assign) for target in node.targets}
            for file in self.files}
        self.look("L16: from the very file that defines the name", lambda file: [
            node for node in file.of(ast.ImportFrom) for alias in node.names
            if alias.name not in tops[node.module.split(".")[1]]])

    def test_no_two_files_draw_from_one_another(self):
        left = {file.path.stem: {node.module.split(".")[1] for node in file.of(ast.ImportFrom)} for file in self.files}
        while left:
            free = [name for name in left if not left[name] & set(left)]
            self.assertNotEqual(free, [], "L16")
            left = {name: drawn for name, drawn in left.items() if name not in free}

    def test_statements_and_expressions(self):
        self.look("L6", lambda file: [node for node in file.of(ast.stmt) if not isinstance(node, STATEMENTS)])
        self.look("L7", lambda file: [node for node in file.of(ast.expr) if not isinstance(node, EXPRESSIONS)])
        self.look("L6", lambda file: [node for node in file.of(ast.For, ast.While) if node.orelse])
        self.look("L6", lambda file: [node for node in file.of(ast.Try) if node.finalbody])
        self.look("L6", lambda file: [
            node for node in file.of(ast.Assign)
            if len(node.targets) != 1 or isinstance(node.targets[0], (ast.Tuple, ast.List, ast.Starred))])
        self.look("L6", lambda file: [
            node for node in file.of(ast.Expr)
            if not isinstance(node.value, ast.Call) and not isinstance(node.value, ast.Constant)])
        self.look("L7", lambda file: [
            node for node in file.of(ast.Constant)
            if not (node.value is None or isinstance(node.value, (bool, int, str)))])
        self.look("L7", lambda file: [node for node in file.of(ast.BinOp, ast.AugAssign)
                                      if isinstance(node.op, (ast.Div, ast.MatMult))])
        self.look("L7", lambda file: [node for node in file.of(ast.ListComp)
                                      if len(node.generators) != 1 or len(node.generators[0].ifs) > 1])
        self.look("L7", lambda file: [
            node for node in file.of(ast.FormattedValue)
            if not isinstance(node.value, ast.Name) or node.format_spec or node.conversion not in (-1, ord("r"))])

    def test_functions(self):
        self.look("L10", lambda file: [
            node for node in file.of(ast.FunctionDef) if node.end_lineno - node.lineno + 1 > 40])
        self.look("L4", lambda file: [
            node for node in file.of(ast.FunctionDef, ast.Lambda)
            if node.args.vararg or node.args.kwarg or node.args.kwonlyargs or node.args.posonlyargs
            or not all(isinstance(value, ast.Constant) for value in node.args.defaults)])
        self.look("L4, L5", lambda file: [
            node for node in file.of(ast.FunctionDef, ast.ClassDef) if node.decorator_list])
        self.look("L21", lambda file: [
            node for node in file.of(ast.FunctionDef)
            if node.returns or any(given.annotation for given in node.args.args)])

    def test_classes(self):
        self.look("L5, L15", lambda file: [
            node for node in file.of(ast.ClassDef)
            if len(node.bases) > 1 or node.keywords or node not in file.tree.body])
        self.look("L5", lambda file: [
            inner for node in file.of(ast.ClassDef) for inner in node.body
            if not isinstance(inner, ast.FunctionDef)
            and not (isinstance(inner, ast.Expr) and isinstance(inner.value, ast.Constant))])
        methods = set().union(*[file.methods() for file in self.files])
        values = set().union(*[file.object_values() for file in self.files])
        self.assertEqual(methods & values, set(), "L18")
        self.assertEqual({name for name in methods - CLASS_METHODS if name.startswith("_")}, set(), "L5, L12")
        self.assertEqual((methods - CLASS_METHODS - ALLOWED_METHODS - {"add", "discard"}) & OWN_VALUES, set(), "L26")
        self.assertEqual((values - FREE_VALUES) & (OWN_VALUES | {"args"}), set(), "L26")

    def test_names(self):
        self.look("L12", lambda file: [
            name for name in file.own_names() - CLASS_METHODS if not re.fullmatch(r"[A-Za-z][A-Za-z0-9_]*", name)])
        self.look("L8, L15", lambda file: sorted(file.own_names() & set(dir(builtins))))
        self.look("L8", lambda file: [
            node for node in file.of(ast.Name) if node.id not in file.own_names() | ALLOWED_BUILTINS])
        self.look("L17, L27", lambda file: [
            node for node in file.of(ast.Name, ast.Attribute)
            if (node.id if isinstance(node, ast.Name) else node.attr) in UNUSED_NAMES])

    def test_each_name_once(self):
        def bound_at_top(file):
            names = file.imported()
            for node in file.tree.body:
                if isinstance(node, (ast.FunctionDef, ast.ClassDef)):
                    names.append(node.name)
                if isinstance(node, ast.Assign):
                    names.append(node.targets[0].id)
            return names
        self.look("L15", lambda file: [name for name in bound_at_top(file) if bound_at_top(file).count(name) > 1])

        def locals_like_top(file):
            kinds = {node.name for node in file.of(ast.ClassDef)} | set(file.imported())
            inner = {node.arg for node in file.of(ast.arg)}
            inner |= {node.id for node in file.of(ast.Name) if isinstance(node.ctx, ast.Store)}
            return sorted(kinds & inner)
        self.look("L15", locals_like_top)

    def test_methods_that_are_called(self):
        own = CLASS_METHODS.union(*[file.methods() for file in self.files])
        self.look("L25", lambda file: [
            node for node in file.of(ast.Call)
            if isinstance(node.func, ast.Attribute) and node.func.attr not in ALLOWED_METHODS | own])

    def test_walked_at_once(self):
        def kept(file):
            for node in file.of(ast.Call):
                plain = isinstance(node.func, ast.Name) and node.func.id in WALKED_AT_ONCE
                view = isinstance(node.func, ast.Attribute) and node.func.attr in ("items", "keys", "values")
                if (plain or view) and not self.is_walked(file.parents[id(node)], node):
                    yield node
        self.look("L23", kept)
        self.look("L24", lambda file: [
            node for node in file.of(ast.For, ast.comprehension)
            if isinstance(node.iter, ast.Call) and isinstance(node.iter.func, ast.Name)
            and node.iter.func.id in ("set", "frozenset")])

    def is_walked(self, parent, node):
        if isinstance(parent, (ast.For, ast.comprehension)):
            return parent.iter is node
        if isinstance(parent, ast.Call) and isinstance(parent.func, ast.Name):
            return parent.func.id in WALKERS
        return isinstance(parent, ast.Call) and isinstance(parent.func, ast.Attribute) and parent.func.attr == "join"

    def test_is_and_powers_and_texts(self):
        self.look("L20", lambda file: [
            node for node in file.of(ast.Compare) for op, right in zip(node.ops, node.comparators)
            if isinstance(op, (ast.Is, ast.IsNot)) and not (
                isinstance(right, ast.Constant) and (right.value is None or isinstance(right.value, bool)))])
        self.look("L27", lambda file: [
            node for node in file.of(ast.BinOp) if isinstance(node.op, ast.Pow)
            and not (isinstance(node.right, ast.Constant) and 0 <= node.right.value <= 64)])
        self.look("L27", lambda file: [
            node for node in file.of(ast.Constant) if isinstance(node.value, str) and chr(37) in node.value])

    def test_errors_that_are_taken(self):
        def named(kind):
            return [part.id for part in (kind.elts if isinstance(kind, ast.Tuple) else [kind])]
        self.look("L6, L19", lambda file: [
            node for node in file.of(ast.ExceptHandler)
            if node.type is None or {"Exception", "TypeError"} & set(named(node.type))])


if __name__ == "__main__":
    unittest.main()
