"""Looks for code outside the subset of Python that the program is written in.

It sees what can be seen file by file, and is stricter than the subset where that is simpler.
"""

import ast
import builtins
import re

LIBRARY = {
    "math": ("gcd", "lcm", "isqrt", "comb", "perm", "factorial"),
    "itertools": ("product", "combinations", "permutations"),
}
BUILTINS = set(
    "len range enumerate zip min max sum abs sorted reversed int str bool bytes list tuple dict set frozenset "
    "isinstance ord repr any all divmod iter next super property staticmethod classmethod NotImplemented "
    "ValueError TypeError KeyError IndexError LookupError ZeroDivisionError ArithmeticError OverflowError "
    "RuntimeError NotImplementedError StopIteration".split()
)
METHODS = set(
    "append clear copy count endswith extend find get index insert isalnum isalpha isdigit islower isspace isupper "
    "items join keys ljust lower lstrip partition pop remove replace reverse rfind rjust rpartition rsplit rstrip "
    "setdefault split splitlines startswith strip update upper values zfill bit_length isascii removeprefix "
    "removesuffix add discard".split()
)
DUNDERS = set(
    "init eq repr str len enter exit call iter lt le gt ge ne add sub mul floordiv mod pow and or xor lshift rshift "
    "radd rsub rmul rfloordiv rmod rand ror rxor rlshift rrshift neg pos invert abs bool contains getitem setitem"
    .split()
)
WORDS = set(
    "typing typing_extensions enum Enum IntEnum StrEnum Flag IntFlag Generic Protocol ABC ABCMeta namedtuple "
    "NamedTuple TypedDict TYPE_CHECKING abstractmethod type".split()
)
NAMES = set(
    "register mro elements open input law version_info with_traceback add_note attrgetter breakpoint builtins compile "
    "copyright credits delattr dir eval exec exit gc getattr globals hasattr help id importlib license locals "
    "methodcaller os quit setattr type vars sys".split()
)
BARRED = (
    ast.Global, ast.Nonlocal, ast.AsyncFunctionDef, ast.AsyncFor, ast.AsyncWith, ast.Await, ast.Match, ast.With,
    ast.GeneratorExp, ast.Div, ast.MatMult, ast.AnnAssign, ast.Import, ast.Delete, ast.YieldFrom,
)
AT_ONCE = ("zip", "enumerate", "reversed", "items", "keys", "values")
TAKERS = ("list", "tuple", "dict", "sorted", "sum", "any", "all", "enumerate", "zip", "min", "max")
ORDERED = ("sorted", "min", "max")
PLAIN_CALLS = ("len", "int", "ord", "str", "repr", "range", "set", "sum")
SHADOWED = set(dir(builtins))


def called(node):
    """The bare name that a call calls, or the name of the method."""
    if not isinstance(node, ast.Call):
        return None
    return node.func.id if isinstance(node.func, ast.Name) else getattr(node.func, "attr", None)


def is_plain(node):
    """Whether a node is plainly numbers or strings."""
    if isinstance(node, (ast.List, ast.Tuple)):
        return all(is_plain(item) for item in node.elts)
    if isinstance(node, ast.ListComp):
        return is_plain(node.elt)
    if isinstance(node, ast.BinOp):
        return is_plain(node.left) and is_plain(node.right)
    if isinstance(node, ast.UnaryOp):
        return is_plain(node.operand)
    return isinstance(node, (ast.Constant, ast.JoinedStr)) or called(node) in PLAIN_CALLS


class File:
    """The faults of one file of the package."""

    def __init__(self, name, text, own_methods):
        self.name, self.text, self.own_methods = name, text, own_methods
        self.faults = []
        self.tree = ast.parse(text)
        self.parents = {below: node for node in ast.walk(self.tree) for below in ast.iter_child_nodes(node)}
        self.look_at_lines()
        self.look_at_top()
        for node in ast.walk(self.tree):
            self.look_at(node)

    def fault(self, rule, node):
        self.faults.append(f"{rule} {self.name}:{getattr(node, 'lineno', node)}")

    def look_at_lines(self):
        lines = self.text.split("\n")
        if len(lines) > 400 or not re.fullmatch("[a-z_][a-z0-9_]*[.]py", self.name):
            self.fault("L10 L14", 1)
        for at, line in enumerate(lines, 1):
            if len(line) > 120 or any(not " " <= letter <= "~" for letter in line):
                self.fault("L10 L14", at)

    def look_at_top(self):
        bound = []
        for at, node in enumerate(self.tree.body):
            if isinstance(node, (ast.FunctionDef, ast.ClassDef)):
                bound.append(node.name)
            elif isinstance(node, ast.ImportFrom):
                bound += [item.name for item in node.names]
            elif isinstance(node, ast.Assign) and isinstance(node.targets[0], ast.Name):
                bound.append(node.targets[0].id)
            elif at or not isinstance(node, ast.Expr):
                self.fault("L3", node)
        if len(bound) != len(set(bound)):
            self.fault("L15", 1)
        self.bound = bound
        self.globals = {node.name for node in self.tree.body if isinstance(node, ast.ClassDef)} | {
            item.name for node in self.tree.body if isinstance(node, ast.ImportFrom) for item in node.names
        }

    def look_at(self, node):
        if isinstance(node, BARRED):
            self.fault("L6 L7", node)
        for kind, look in (
            (ast.FunctionDef, self.look_at_function), (ast.Call, self.look_at_call), (ast.Name, self.look_at_name),
            (ast.Constant, self.look_at_constant), (ast.ImportFrom, self.look_at_import), (ast.arg, self.look_at_arg),
            (ast.Compare, self.look_at_compare), (ast.BinOp, self.look_at_power), (ast.Attribute, self.look_at_word),
            (ast.ExceptHandler, self.look_at_handler),
        ):
            if isinstance(node, kind):
                look(node)

    def look_at_function(self, node):
        if node.end_lineno - node.lineno >= 40 or node.returns:
            self.fault("L10 L21", node)
        for made in node.decorator_list:
            if ast.unparse(made) not in ("property", "staticmethod", "classmethod", node.name + ".setter"):
                self.fault("L4", node)
        if node.name.startswith("__") and node.name.strip("_") not in DUNDERS:
            self.fault("L5", node)
        if not isinstance(self.parents[node], ast.ClassDef) and node.name in SHADOWED:
            self.fault("L15", node)
        if node.name == "__init__" and any(isinstance(below, ast.Return) for below in ast.walk(node)):
            self.fault("L28", node)

    def look_at_arg(self, node):
        if node.annotation or node.arg in SHADOWED | NAMES | self.globals:
            self.fault("L15 L17 L21", node)

    def look_at_name(self, node):
        if isinstance(node.ctx, ast.Store):
            if node.id in SHADOWED | NAMES or (node.id in self.globals and self.parents[node] not in self.tree.body):
                self.fault("L15 L17", node)
        elif node.id in SHADOWED and node.id not in BUILTINS:
            self.fault("L8", node)
        if node.id == "_" and isinstance(node.ctx, ast.Load):
            self.fault("L12", node)

    def look_at_word(self, node):
        if node.attr in ("register", "mro", "elements", "open", "input", "law", "format", "args", "sort"):
            self.fault("L17 L26", node)

    def look_at_call(self, node):
        name, parent = called(node), self.parents[node]
        if isinstance(node.func, ast.Attribute) and name not in METHODS | self.own_methods:
            self.fault("L25", node)
        if name in AT_ONCE:
            by_loop = isinstance(parent, (ast.For, ast.comprehension)) and parent.iter is node
            if not by_loop and called(parent) not in TAKERS:
                self.fault("L23", node)
        if name == "set" and isinstance(node.func, ast.Name) and called(parent) not in ("sorted", "len"):
            if not isinstance(parent, (ast.Compare, ast.Assign)):
                self.fault("L24", node)
        if name in ORDERED and isinstance(node.func, ast.Name):
            keyed = any(item.arg == "key" and ast.unparse(item.value) in ("len", "int", "str") for item in node.keywords)
            if not keyed and not any(is_plain(item) for item in node.args):
                self.fault("L5", node)

    def look_at_compare(self, node):
        for sign, right in zip(node.ops, node.comparators):
            if isinstance(sign, (ast.Is, ast.IsNot)) and ast.unparse(right) not in ("None", "True", "False"):
                self.fault("L20", node)

    def look_at_power(self, node):
        if isinstance(node.op, ast.Pow) and getattr(node.right, "value", 65) > 64:
            self.fault("L27", node)

    def look_at_handler(self, node):
        names = node.type.elts if isinstance(node.type, ast.Tuple) else [node.type]
        if node.type is None or any(name.id in SHADOWED for name in names):
            self.fault("L19", node)

    def look_at_constant(self, node):
        if isinstance(node.value, (float, complex)) or node.value is Ellipsis:
            self.fault("L7", node)
        if isinstance(node.value, str) and not isinstance(self.parents[node], ast.Expr):
            words = set(re.findall(r"\w+", node.value)) - {"type"}
            if "%" in node.value or words & WORDS or re.fullmatch("__.*__", node.value):
                self.fault("L17 L27", node)

    def look_at_import(self, node):
        if node.level or node not in self.tree.body or any(item.asname for item in node.names):
            self.fault("L2", node)
        for item in node.names:
            if node.module in LIBRARY and item.name not in LIBRARY[node.module]:
                self.fault("L2", node)
            if node.module not in LIBRARY and not node.module.startswith("drawclaims."):
                self.fault("L2", node)


def names_in_classes(text):
    """For each class of a file its plain methods, its attributes, and the methods that are more than plain."""
    found = {}
    for node in ast.walk(ast.parse(text)):
        if isinstance(node, ast.ClassDef):
            methods = [row for row in node.body if isinstance(row, ast.FunctionDef) and not row.name.startswith("__")]
            special = {row.name for row in methods if row.decorator_list or yields(row)}
            attributes = {
                below.attr for below in ast.walk(node)
                if isinstance(below, ast.Attribute) and isinstance(below.ctx, ast.Store) and ast.unparse(below.value) == "self"
            }
            assigned = {ast.unparse(made).partition(".")[0] for row in methods for made in row.decorator_list if "." in ast.unparse(made)}
            found[node.name] = ({row.name for row in methods} - special, attributes - assigned, special)
    return found


def yields(function):
    return any(isinstance(below, ast.Yield) for below in ast.walk(function))


def methods_in(text):
    """The names of the methods of the classes in a file."""
    return {
        row.name
        for node in ast.walk(ast.parse(text)) if isinstance(node, ast.ClassDef)
        for row in node.body if isinstance(row, ast.FunctionDef)
    }
