"""Those rules of LANGUAGE.md that can be seen file by file; the others are for the reader."""
import ast
import builtins
import io
import pathlib
import re
import tokenize
import unittest

PACKAGE = pathlib.Path(__file__).resolve().parent.parent / "hourstairs"
BUILTINS = set("""len range enumerate zip min max sum abs sorted reversed int str bool bytes list tuple dict set
    frozenset isinstance ord repr any all divmod Exception ValueError TypeError KeyError IndexError LookupError
    ZeroDivisionError ArithmeticError OverflowError RuntimeError NotImplementedError StopIteration""".split())
KEYWORDS = {"sorted": {"key", "reverse"}, "min": {"key", "default"}, "max": {"key", "default"},
            "sum": {"start"}, "enumerate": {"start"}, "zip": {"strict"}}
METHODS = set("""append clear copy count endswith extend find get index insert isalnum isalpha isdigit islower isspace
    isupper items join keys ljust lower lstrip partition pop remove replace reverse rfind rjust rpartition rsplit
    rstrip setdefault split splitlines startswith strip update upper values zfill bit_length sort add discard
    __init__""".split())
DOUBLE_UNDERSCORE = {"__init__", "__eq__", "__repr__", "__str__", "__len__", "__all__", "__version__"}
NOWHERE = set("register mro elements open input version_info with_traceback add_note".split())
WORDS = re.compile(r"\b(type|typing|typing_extensions|enum|Enum|IntEnum|StrEnum|Flag|IntFlag|Generic|Protocol|ABC|"
                   r"ABCMeta|namedtuple|NamedTuple|TypedDict|TYPE_CHECKING|abstractmethod)\b|"
                   r"dataclass|overload|contextmanager")
STATEMENTS = (ast.FunctionDef, ast.ClassDef, ast.ImportFrom, ast.Assign, ast.AugAssign, ast.AnnAssign, ast.If,
              ast.While, ast.For, ast.Return, ast.Break, ast.Continue, ast.Pass, ast.Raise, ast.Assert, ast.Delete,
              ast.Try, ast.Expr)
EXPRESSIONS = (ast.BoolOp, ast.BinOp, ast.UnaryOp, ast.Lambda, ast.IfExp, ast.Dict, ast.Set, ast.ListComp, ast.SetComp,
               ast.DictComp, ast.Compare, ast.Call, ast.JoinedStr, ast.FormattedValue, ast.Constant, ast.Attribute,
               ast.Subscript, ast.Starred, ast.Name, ast.List, ast.Tuple, ast.Slice)
CONSTANTS = (int, str, bytes, bool, type(None), type(...))


def sources():
    for path in sorted(PACKAGE.rglob("*.py")):
        yield path.relative_to(PACKAGE).as_posix(), path.read_text(encoding="utf-8")


def faults_of_text(text):
    lines = text.split("\n")
    if len(lines) > 401:
        yield "L10: over 400 lines"
    for at, line in enumerate(lines, 1):
        if len(line) > 120:
            yield f"L10: line {at} is over 120 characters"
        if re.search(r"[^ -~]", line):
            yield f"L14: line {at} has other characters"
        if WORDS.search(line):
            yield f"L17: line {at} has a word that is barred"
    for token in tokenize.generate_tokens(io.StringIO(text).readline):
        if token.type == tokenize.STRING:
            if "%" in token.string or re.search(r"\\[^nt\\'\"]", token.string.replace("\\\\", "")):
                yield f"L27: a string at line {token.start[0]}"


def faults_of_module(tree, modules):
    imports_over = False
    for at, node in enumerate(tree.body):
        docstring = at == 0 and isinstance(node, ast.Expr) and isinstance(node.value, ast.Constant)
        if isinstance(node, ast.ImportFrom):
            if imports_over:
                yield "L2: an import is not at the top", node
            yield from faults_of_import(node, modules)
        elif not docstring:
            imports_over = True
            if not isinstance(node, (ast.FunctionDef, ast.ClassDef, ast.Assign)):
                yield "L3: not for module level", node
    bound = bound_names(tree)
    for name in bound:
        if bound.count(name) > 1:
            yield f"L15: {name} is bound twice", tree.body[0]


def bound_names(tree):
    names = []
    for node in tree.body:
        if isinstance(node, (ast.FunctionDef, ast.ClassDef)):
            names.append(node.name)
        elif isinstance(node, ast.ImportFrom):
            names += [part.asname or part.name for part in node.names]
        elif isinstance(node, ast.Assign):
            names += [part.id for part in node.targets if isinstance(part, ast.Name)]
    return names


def faults_of_locals(tree):
    """Names inside of functions that an import or a class of the file has; imports that nothing reads."""
    imports = {part.asname or part.name for node in tree.body if isinstance(node, ast.ImportFrom) for part in node.names}
    taken = imports | {node.name for node in tree.body if isinstance(node, ast.ClassDef)}
    read = {node.id for node in ast.walk(tree) if isinstance(node, ast.Name) and isinstance(node.ctx, ast.Load)}
    for name in sorted(imports - read):
        yield f"nothing reads {name}", tree.body[0]
    for node in ast.walk(tree):
        bound = node.id if isinstance(node, ast.Name) and isinstance(node.ctx, ast.Store) else getattr(node, "arg", None)
        if bound in taken and not isinstance(node, ast.keyword):
            yield f"L15: {bound} is an import or a class", node


def faults_of_sets(tree):
    """Sets anywhere but directly in sorted, in len, or behind `in`: stored ones are for the reader."""
    allowed = set()
    for node in ast.walk(tree):
        if isinstance(node, ast.Call) and isinstance(node.func, ast.Name) and node.func.id in ("sorted", "len"):
            allowed |= {id(part) for part in node.args}
        if isinstance(node, ast.Compare):
            allowed |= {id(part) for part in node.comparators}
    for node in ast.walk(tree):
        is_call = isinstance(node, ast.Call) and isinstance(node.func, ast.Name) and node.func.id in ("set", "frozenset")
        if (is_call or isinstance(node, (ast.Set, ast.SetComp))) and id(node) not in allowed:
            yield "L24: a set", node


def faults_of_raises(tree):
    for node in ast.walk(tree):
        if isinstance(node, ast.Raise) and node.exc is not None:
            if not isinstance(node.exc, ast.Call) or not isinstance(node.exc.func, ast.Name):
                yield "L19: an error that is not made on the spot", node


def faults_of_import(node, modules):
    if node.level or node.module not in modules:
        yield "L2: not from a module of the package", node
        return
    own = [part for part in modules[node.module].body if not isinstance(part, ast.ImportFrom)]
    for part in node.names:
        if part.name not in bound_names(ast.Module(own, [])):
            yield f"L16: {part.name} is not defined there", node


def faults_of_node(node, attributes):
    if isinstance(node, ast.stmt) and not isinstance(node, STATEMENTS):
        yield "L6: a statement"
    if isinstance(node, ast.expr) and not isinstance(node, EXPRESSIONS):
        yield "L7: an expression"
    if isinstance(node, (ast.For, ast.While)) and node.orelse:
        yield "L6: an else after a loop"
    if isinstance(node, ast.Starred) and isinstance(node.ctx, ast.Load):
        yield "L7: a star"
    if isinstance(node, (ast.Div, ast.MatMult)) or isinstance(node, ast.Constant) and type(node.value) not in CONSTANTS:
        yield "L7: a number with a point, or a division"
    if isinstance(node, ast.BinOp) and isinstance(node.op, ast.Pow):
        if not isinstance(node.right, ast.Constant) or node.right.value not in range(65):
            yield "L27: a power"
    if isinstance(node, ast.FormattedValue) and node.format_spec:
        yield "L7: a format"
    if isinstance(node, ast.Compare):
        for op, side in zip(node.ops, node.comparators):
            plain = isinstance(side, ast.Constant) and side.value in (None, True, False)
            if isinstance(op, (ast.Is, ast.IsNot)) and not plain:
                yield "L20: is"
    if isinstance(node, ast.ExceptHandler):
        if node.type is None or re.search(r"\b(Exception|TypeError)\b", ast.unparse(node.type)):
            yield "L19: what is caught"
    if isinstance(node, ast.Attribute):
        if node.attr not in METHODS | attributes or node.attr in NOWHERE:
            yield f"L25: {node.attr}"


def faults_of_names(node):
    name = getattr(node, "id", None) or getattr(node, "arg", None) or getattr(node, "name", None)
    if not isinstance(name, str):
        return
    if not re.fullmatch(r"[A-Za-z][A-Za-z0-9_]*", name) and name not in DOUBLE_UNDERSCORE or name in NOWHERE:
        yield f"L12: {name}"
    binds = not isinstance(node, (ast.Name, ast.keyword)) or isinstance(getattr(node, "ctx", None), ast.Store)
    if name not in DOUBLE_UNDERSCORE and hasattr(builtins, name) and (binds or isinstance(node, ast.Name) and name not in BUILTINS):
        yield f"L8 or L15: {name}"


def faults_of_definition(node):
    if node.decorator_list:
        yield "L4: a decorator"
    if isinstance(node, ast.FunctionDef):
        if node.end_lineno - node.lineno >= 40:
            yield "L10: over 40 lines"
        if node.args.vararg or node.args.kwarg or node.args.posonlyargs:
            yield "L4: parameters"
    else:
        if len(node.bases) > 1 or node.keywords:
            yield "L5: bases"
        for at, part in enumerate(node.body):
            if not isinstance(part, ast.FunctionDef) and not (at == 0 and isinstance(part, ast.Expr)):
                yield "L5: a value in a class"


def faults_of_call(node):
    if isinstance(node.func, ast.Name) and hasattr(builtins, node.func.id):
        if not {part.arg for part in node.keywords} <= KEYWORDS.get(node.func.id, set()):
            yield "L22: a keyword"
    if isinstance(node.func, ast.Attribute) and node.func.attr in METHODS - {"sort"} and node.keywords:
        yield "L25: a keyword"


def own_methods(trees):
    classes = [node for tree in trees for node in ast.walk(tree) if isinstance(node, ast.ClassDef)]
    return {part.name for node in classes for part in node.body if isinstance(part, ast.FunctionDef)}


def assigned_attributes(trees):
    nodes = [node for tree in trees for node in ast.walk(tree) if isinstance(node, ast.Attribute)]
    return {node.attr for node in nodes if isinstance(node.ctx, ast.Store)}


def own_attributes(trees):
    return own_methods(trees) | assigned_attributes(trees)


def faults_of_tree(tree, modules):
    attributes = own_attributes(modules.values())
    yield from faults_of_module(tree, modules)
    yield from faults_of_locals(tree)
    yield from faults_of_sets(tree)
    yield from faults_of_raises(tree)
    for node in ast.walk(tree):
        told = list(faults_of_node(node, attributes)) + list(faults_of_names(node))
        if isinstance(node, (ast.FunctionDef, ast.ClassDef)):
            told += faults_of_definition(node)
        if isinstance(node, ast.Call):
            told += faults_of_call(node)
        for fault in told:
            yield fault, node


def faults(name, text, modules):
    told = [f"{name}: {fault}" for fault in faults_of_text(text)]
    for fault, node in faults_of_tree(ast.parse(text), modules):
        told.append(f"{name}:{getattr(node, 'lineno', '?')}: {fault}")
    return told


class Language(unittest.TestCase):
    def modules(self):
        return {"hourstairs." + name[:-3].replace("/", "."): ast.parse(text) for name, text in sources()}

    def test_files(self):
        names = [path.name for path in PACKAGE.rglob("*") if "__pycache__" not in path.parts]
        self.assertIn("__init__.py", names)
        self.assertLessEqual(len(names), 100)
        for name in names:
            self.assertRegex(name, r"^([a-z][a-z0-9_]*|__init__|__main__)\.py$")
            self.assertNotRegex(name, r"^(test|law_)")

    def test_each_file(self):
        modules = self.modules()
        for name, text in sources():
            self.assertEqual(faults(name, text, modules), [])

    def test_methods_and_attributes(self):
        """L18 and L26: no name is both, and none of strings, numbers, lists, dicts, sets and bytes has it."""
        methods, attributes = own_methods(self.modules().values()), assigned_attributes(self.modules().values())
        self.assertEqual(methods & attributes, set())
        taken = {name for kind in (str, int, list, dict, set, bytes) for name in dir(kind)}
        self.assertEqual((methods | attributes) & taken, {"__init__"})
        self.assertEqual(methods - {"__init__"}, {"net", "stairs", "change"})

    def test_iterated_at_once(self):
        """L23: zip, enumerate, range, reversed, items, keys and values stand where they are iterated."""
        for name, tree in self.modules().items():
            places = set()
            for node in ast.walk(tree):
                if isinstance(node, (ast.For, ast.comprehension)):
                    places.add(id(node.iter))
                if isinstance(node, ast.Call) and isinstance(node.func, ast.Name):
                    if node.func.id in "list tuple dict sorted sum any all enumerate zip bytes".split():
                        places |= {id(part) for part in node.args}
            for node in ast.walk(tree):
                called = getattr(node.func, "id", getattr(node.func, "attr", "")) if isinstance(node, ast.Call) else ""
                if called in "zip enumerate range reversed items keys values".split():
                    self.assertIn(id(node), places, f"{name}:{node.lineno}")

    def test_no_two_files_import_from_each_other(self):
        reached = {name: {node.module for node in tree.body if isinstance(node, ast.ImportFrom)}
                   for name, tree in self.modules().items()}
        for again in reached:
            for name in reached:
                reached[name] |= {far for near in reached[name] for far in reached.get(near, ())}
        for name in reached:
            self.assertNotIn(name, reached[name])

    def test_the_check_itself_sees_faults(self):
        for text in ["import math\n", "x = 1 / 2\n", "def f(*a):\n    pass\n", "def f(x):\n    return x is 3\n",
                     "x = 0.5\n", "def f(n):\n    return 2 ** n\n", "def f(x):\n    return hash(x)\n", "# type\n",
                     "def f(x):\n    return [*x]\n", "def f(x):\n    return any(y for y in x)\n", "x = 'a%'\n",
                     "def _f():\n    pass\n", "def f(x):\n    return x.format(1)\n", "def f(min):\n    pass\n",
                     "from math import gcd\n", "x = 1\nx = 2\n", "def f(x):\n    with x:\n        pass\n",
                     "def f(x):\n    try:\n        x()\n    except Exception:\n        pass\n", "x = '\\r'\n",
                     "from hourstairs.errors import NoText\n", "def f(x):\n    for y in set(x):\n        return y\n",
                     "from hourstairs.errors import NoText\ndef f(NoText):\n    return NoText\n",
                     "def f(x):\n    raise x\n"]:
            self.assertNotEqual(faults("it", text, self.modules()), [], text)


if __name__ == "__main__":
    unittest.main()
