"""The rules of LANGUAGE.md that a script can look at, held against every file of the package."""

import ast
import builtins
import pathlib
import re
import tokenize
import unittest

PACKAGE = pathlib.Path(__file__).resolve().parent.parent / "spotheights"

LIBRARY = {"math": {"gcd", "lcm", "isqrt", "comb", "perm", "factorial"}}
BUILTINS = set("""
    len range enumerate zip min max sum abs sorted reversed int str bool list tuple dict isinstance ord repr any all
    divmod getattr hasattr setattr super staticmethod classmethod property iter next map set frozenset type pow
    Exception ValueError TypeError KeyError IndexError LookupError ZeroDivisionError ArithmeticError OverflowError
    RuntimeError NotImplementedError StopIteration NotImplemented
""".split())
METHODS = set("""
    append clear copy count endswith extend find get index insert isalnum isalpha isdigit islower isspace isupper items
    join keys ljust lower lstrip partition pop remove replace reverse rfind rjust rpartition rsplit rstrip setdefault
    split splitlines startswith strip update upper values zfill bit_length
    title capitalize swapcase casefold center expandtabs removeprefix removesuffix rindex isascii isdecimal isnumeric
    istitle isidentifier isprintable
""".split())
DUNDERS = set("""
    __init__ __eq__ __repr__ __str__ __len__ __enter__ __exit__ __call__ __iter__ __lt__ __le__ __gt__ __ge__ __ne__
    __add__ __sub__ __mul__ __floordiv__ __mod__ __pow__ __and__ __or__ __xor__ __lshift__ __rshift__ __radd__ __rsub__
    __rmul__ __neg__ __pos__ __invert__ __abs__ __bool__ __contains__ __getitem__ __setitem__
""".split())
WORDS = set("""
    type typing typing_extensions enum Enum IntEnum StrEnum Flag IntFlag Generic Protocol ABC ABCMeta namedtuple
    NamedTuple TypedDict TYPE_CHECKING abstractmethod
""".split())
NOWHERE = set("register mro elements open input law version_info with_traceback add_note".split())
NOT_BOUND = set("""
    attrgetter breakpoint builtins compile copyright credits delattr dir eval exec exit gc getattr globals hasattr help
    id importlib license locals methodcaller os quit setattr super type vars sys
""".split())
BAD_STARTS = ("_wall", "_pe_", "_dcw_", "_enum_", "_cm_", "_twin_re_", "_lay_", "_law_", "_stub_", "_sre", "_WallAttr",
              "_cold", "_tuplegetter", "_outside", "_record", "_written_out", "_member_names")
STATEMENTS = (ast.FunctionDef, ast.ClassDef, ast.Assign, ast.Return, ast.If, ast.While, ast.For, ast.Break,
              ast.Continue, ast.Pass, ast.Raise, ast.Assert, ast.Delete, ast.Try, ast.Expr, ast.ImportFrom)
RUN_BY_SIGNS = set("""
    __eq__ __repr__ __str__ __len__ __iter__ __lt__ __le__ __gt__ __ge__ __ne__ __add__ __sub__ __mul__ __radd__
    __rsub__ __rmul__ __neg__ __pos__ __invert__ __abs__ __bool__ __contains__ __getitem__
""".split())
MODIFYING = set("append clear extend insert pop remove reverse setdefault update sort add discard".split())
AT_ONCE = {"list", "tuple", "dict", "sorted", "sum", "any", "all", "enumerate", "zip", "min", "max"}
LAZY = {"zip", "enumerate", "reversed", "range"}


class File:
    """A file of the package, read."""

    def __init__(self, name, text):
        self.name = name
        self.text = text
        self.tree = ast.parse(text)
        self.nodes = list(ast.walk(self.tree))
        self.parents = {}
        for node in self.nodes:
            for child in ast.iter_child_nodes(node):
                self.parents[child] = node

    def of(self, *kinds):
        return [node for node in self.nodes if isinstance(node, kinds)]

    def top_names(self):
        names = []
        for node in self.tree.body:
            if isinstance(node, (ast.FunctionDef, ast.ClassDef)):
                names.append(node.name)
            elif isinstance(node, ast.Assign):
                names += [target.id for target in node.targets]
            elif isinstance(node, ast.ImportFrom):
                names += [part.name for part in node.names]
        return names

    def local_names(self):
        """Parameters, variables and caught errors, without what is bound at the top."""
        names = [node.arg for node in self.of(ast.arg)]
        names += [node.name for node in self.of(ast.ExceptHandler) if node.name]
        for node in self.of(ast.Name):
            if isinstance(node.ctx, ast.Store) and not isinstance(self.parents[self.parents[node]], ast.Module):
                names.append(node.id)
        return names


def package():
    found = []
    for path in sorted(PACKAGE.glob("*.py")):
        found.append(File(path.stem, path.read_text(encoding="utf-8")))
    return found


def own_names(files):
    """The names of all functions and methods of the package."""
    return {node.name for file in files for node in file.of(ast.FunctionDef)}


def error_names(files):
    return {node.name for file in files if file.name == "errors" for node in file.of(ast.ClassDef)}


def generator_names(files):
    found = set()
    for file in files:
        for node in file.of(ast.FunctionDef):
            if any(isinstance(part, (ast.Yield, ast.YieldFrom)) for part in ast.walk(node)):
                found.add(node.name)
    return found


def form(file, files):
    """L10, L14: sizes and characters."""
    lines = file.text.split("\n")
    if len(lines) > 400:
        yield "L10 file"
    for number, line in enumerate(lines, 1):
        if len(line) > 120:
            yield f"L10 line {number}"
    for node in file.of(ast.FunctionDef):
        if node.end_lineno - node.lineno + 1 > 40:
            yield f"L10 function {node.name}"
    if set(file.text) - {chr(k) for k in range(32, 127)} - {"\n"}:
        yield "L14 character"
    if file.name != "__init__" and (not re.fullmatch("[a-z][a-z0-9_]*", file.name) or hasattr(builtins, file.name)):
        yield "L14 file name"


def imports(file, files):
    """L2, L16: what is imported, and where it is defined."""
    if file.of(ast.Import):
        yield "L2 import"
    seen_other = False
    for at, node in enumerate(file.tree.body):
        if not isinstance(node, ast.ImportFrom):
            seen_other = seen_other or at > 0 or not isinstance(node, ast.Expr)
            continue
        if seen_other or node.level or any(part.asname for part in node.names):
            yield f"L2 line {node.lineno}"
        names = {part.name for part in node.names}
        if node.module in LIBRARY:
            if names - LIBRARY[node.module]:
                yield f"L2 {node.module}"
            continue
        homes = [other for other in files if "spotheights." + other.name == node.module]
        if not homes:
            yield f"L2 {node.module}"
            continue
        defined = [node.name for node in homes[0].of(ast.FunctionDef, ast.ClassDef)]
        defined += [node.targets[0].id for node in homes[0].tree.body if isinstance(node, ast.Assign)]
        if names - set(defined):
            yield f"L16 {names - set(defined)}"
    if len(file.of(ast.ImportFrom)) != len([node for node in file.tree.body if isinstance(node, ast.ImportFrom)]):
        yield "L2 inner import"


def top_level(file, files):
    """L3, L15: docstrings, imports, functions, classes and plain values, each name bound once."""
    for at, node in enumerate(file.tree.body):
        plain = isinstance(node, (ast.FunctionDef, ast.ClassDef, ast.ImportFrom))
        docstring = at == 0 and isinstance(node, ast.Expr) and isinstance(node.value, ast.Constant)
        value = isinstance(node, ast.Assign) and len(node.targets) == 1 and isinstance(node.targets[0], ast.Name)
        if not plain and not docstring and not value:
            yield f"L3 line {node.lineno}"
        if value and any(isinstance(part, (ast.Call, ast.Attribute, ast.Subscript, ast.ListComp))
                         for part in ast.walk(node.value)):
            yield f"L3 line {node.lineno}"
        # What a table names are functions defined above it in the file, and it has no lists or dicts in it.
        if value:
            above = [other.name for other in file.tree.body[:at] if isinstance(other, ast.FunctionDef)]
            if isinstance(node.value, (ast.List, ast.Dict, ast.Tuple)):
                if {part.id for part in ast.walk(node.value) if isinstance(part, ast.Name)} - set(above):
                    yield f"L3 table line {node.lineno}"
            inner = [part for part in ast.walk(node.value) if isinstance(part, (ast.List, ast.Dict))]
            if [part for part in inner if part is not node.value]:
                yield f"L15 table line {node.lineno}"
    names = file.top_names()
    if len(names) != len(set(names)):
        yield "L15 bound twice"
    for name in file.local_names():
        if name in names:
            yield f"L15 {name}"
    for name in names + file.local_names():
        if hasattr(builtins, name):
            yield f"L15 builtin {name}"


def classes(file, files):
    """L4, L5: decorators, bases, double-underscore methods."""
    for node in file.of(ast.ClassDef):
        if node.decorator_list or node.keywords or not isinstance(file.parents[node], ast.Module):
            yield f"L5 class {node.name}"
        methods = [part.name for part in node.body if isinstance(part, ast.FunctionDef)]
        if len(methods) != len(set(methods)):
            yield f"L18 {node.name}"
        attributes = {part.attr for part in ast.walk(node)
                      if isinstance(part, ast.Attribute) and isinstance(part.ctx, ast.Store)}
        if attributes & set(methods):
            yield f"L18 {node.name}"
        if (node.bases or node.name in base_names(files)) and {"__radd__", "__rmul__", "__rsub__"} & set(methods):
            yield f"L5 {node.name}"
        for part in node.body:
            value = isinstance(part, ast.Assign) and isinstance(part.value, ast.Constant) and len(part.targets) == 1
            docstring = isinstance(part, ast.Expr) and isinstance(part.value, ast.Constant)
            if not value and not docstring and not isinstance(part, ast.FunctionDef):
                yield f"L5 body of {node.name}"
        if {"__getitem__"} & set(methods) and "__iter__" not in methods:
            yield f"L5 {node.name}"
        # Attributes and methods of the classes above and below count as well.
        for name in family(node.name, files):
            above = [other for one in files for other in one.of(ast.ClassDef) if other.name == name][0]
            if attributes & {part.name for part in above.body if isinstance(part, ast.FunctionDef)}:
                yield f"L18 {node.name}"
    for node in file.of(ast.FunctionDef):
        inside = isinstance(file.parents[node], ast.ClassDef)
        if node.name == "__iter__" and not re.fullmatch(r"return iter\(self(\.\w+){1,2}\)", ast.unparse(node.body[-1])):
            yield "L5 __iter__"
        if node.name == "__iter__" and len(node.body) > 1:
            yield "L5 __iter__"
        if node.name == "__len__" and not ast.unparse(node.body[-1]).startswith("return len("):
            yield "L28 __len__"
        for decorator in node.decorator_list:
            if not inside or ast.unparse(decorator) not in {"property", "staticmethod", "classmethod"}:
                yield f"L4 {node.name}"
        if node.name.startswith("__") and (not inside or node.name not in DUNDERS):
            yield f"L5 {node.name}"
        if node.returns or node.args.posonlyargs or node.args.vararg or node.args.kwarg:
            yield f"L4 {node.name}"
        if node.name in {"__str__", "__repr__", "__len__"} and not isinstance(node.body[-1], ast.Return):
            yield f"L28 {node.name}"
        if node.name in {"__str__", "__repr__", "__len__", "__eq__"}:
            if any(isinstance(part, (ast.Assign, ast.For, ast.While)) for part in ast.walk(node)):
                yield f"L28 {node.name}"
        if node.name == "__init__" and any(isinstance(part, ast.Return) for part in ast.walk(node)):
            yield "L28 __init__"


def family(name, files):
    """The names of the classes of the package above and below the class with this name."""
    bases = {node.name: {ast.unparse(base) for base in node.bases}
             for file in files for node in file.of(ast.ClassDef)}
    found = {name}
    while True:
        more = {other for other in bases if bases[other] & found} | {base for other in found
                                                                     for base in bases.get(other, []) if base in bases}
        if more <= found:
            return sorted((found & set(bases)) - {name})
        found = found | more


def base_names(files):
    return {ast.unparse(base) for file in files for node in file.of(ast.ClassDef) for base in node.bases}


def statements(file, files):
    """L6, L19: the kinds of statements, and what is caught and raised."""
    for node in file.of(ast.stmt):
        if not isinstance(node, STATEMENTS):
            yield f"L6 line {node.lineno}"
    for node in file.of(ast.Assign):
        if not isinstance(file.parents[node], ast.Module) and len(node.targets) > 1:
            yield f"line {node.lineno}"
    errors = error_names(files)
    for node in file.of(ast.ExceptHandler):
        caught = node.type.elts if isinstance(node.type, ast.Tuple) else [node.type]
        for kind in caught:
            if not isinstance(kind, ast.Name) or kind.id not in errors | {"KeyError", "ZeroDivisionError"}:
                yield f"L19 line {node.lineno}"
    for node in file.of(ast.Raise):
        handler = handler_around(file, node)
        if node.exc is None:
            if handler is None:
                yield f"L19 line {node.lineno}"
        elif not isinstance(node.exc, ast.Call) or not isinstance(node.exc.func, ast.Name):
            yield f"L19 line {node.lineno}"
        elif node.exc.func.id not in errors or node.exc.keywords:
            yield f"L19 line {node.lineno}"
        elif node.cause is not None and ast.unparse(node.cause) not in {"None", getattr(handler, "name", None)}:
            yield f"L19 cause line {node.lineno}"
    for node in file.of(ast.FunctionDef):
        told = [part.name for part in ast.walk(node) if isinstance(part, ast.ExceptHandler) and part.name]
        bound = [part.id for part in ast.walk(node) if isinstance(part, ast.Name) and isinstance(part.ctx, ast.Store)]
        bound += [part.arg for part in ast.walk(node) if isinstance(part, ast.arg)]
        if len(told) != len(set(told)) or set(told) & set(bound):
            yield f"L19 name in {node.name}"


def handler_around(file, node):
    """The handler in which the node stands, or None."""
    while node in file.parents and not isinstance(node, (ast.ExceptHandler, ast.FunctionDef)):
        node = file.parents[node]
    return node if isinstance(node, ast.ExceptHandler) else None


def values(file, files):
    """L7, L20, L24, L27: numbers, strings, operators and comparisons."""
    for node in file.of(ast.Constant):
        if isinstance(node.value, (float, complex, bytes)) or node.value is Ellipsis:
            yield f"L7 line {node.lineno}"
        if isinstance(node.value, str) and not is_docstring(file, node):
            if "%" in node.value or node.value.endswith(("._", ".__")) or re.fullmatch("__.*__", node.value):
                yield f"L27 line {node.lineno}"
        if isinstance(node.value, int) and not isinstance(node.value, bool) and abs(node.value) >= 10 ** 900:
            yield f"L27 line {node.lineno}"
    for node in file.of(ast.BinOp):
        if isinstance(node.op, (ast.Div, ast.MatMult)):
            yield f"L7 line {node.lineno}"
        if isinstance(node.op, ast.Pow):
            power = node.right
            if not isinstance(power, ast.Constant) or not 0 <= power.value <= 64:
                yield f"L27 line {node.lineno}"
    for node in file.of(ast.Compare):
        for sign, other in zip(node.ops, node.comparators):
            single = isinstance(other, ast.Constant) and (other.value is None or isinstance(other.value, bool))
            if isinstance(sign, (ast.Is, ast.IsNot)) and not single:
                yield f"L20 line {node.lineno}"
    for node in file.of(ast.Set, ast.SetComp, ast.GeneratorExp, ast.Lambda, ast.Await, ast.NamedExpr):
        yield f"not used here: line {node.lineno}"
    for node in file.of(ast.Dict):
        if None in node.keys:
            yield f"line {node.lineno}"


def is_docstring(file, node):
    parent = file.parents[node]
    return isinstance(parent, ast.Expr) and isinstance(parent.value, ast.Constant)


def names(file, files):
    """L8, L12, L17, L25: builtins, spellings, methods."""
    known = set(file.top_names()) | set(file.local_names())
    for node in file.of(ast.Name):
        if isinstance(node.ctx, ast.Load) and node.id not in known | BUILTINS:
            yield f"L8 {node.id}"
    bound = file.top_names() + file.local_names() + [node.name for node in file.of(ast.FunctionDef)]
    bound += [node.attr for node in file.of(ast.Attribute) if isinstance(node.ctx, ast.Store)]
    for name in bound:
        if not re.fullmatch("_?[A-Za-z][A-Za-z0-9_]*|_", name) and name not in DUNDERS or name.startswith(BAD_STARTS):
            yield f"L12 {name}"
        if name in NOWHERE | NOT_BOUND or name.startswith(("f_", "tb_", "co_")):
            yield f"L17 {name}"
    for node in file.of(ast.Name):
        if node.id == "_" and isinstance(node.ctx, ast.Load):
            yield "L12 _"
    methods = own_names(files)
    for node in file.of(ast.Attribute):
        called = isinstance(file.parents[node], ast.Call) and file.parents[node].func is node
        if called and node.attr not in METHODS | methods | {"__init__"}:
            yield f"L25 {node.attr}"
        if called and node.attr in METHODS and file.parents[node].keywords:
            yield f"L25 {node.attr}"
        if node.attr.startswith("__") and node.attr != "__init__":
            yield f"L8 {node.attr}"


def calls(file, files):
    """L22, L23: what is iterated at once, and keywords of builtins."""
    generators = generator_names(files)
    for node in file.of(ast.Call):
        name = node.func.id if isinstance(node.func, ast.Name) else ""
        if isinstance(node.func, ast.Attribute) and node.func.attr in {"items", "keys", "values"}:
            name = "zip"
        if name in LAZY | generators and not is_iterated(file, node):
            yield f"L23 line {node.lineno}"
        if name in {"bytes", "chr", "print", "open", "set", "frozenset", "map", "pow", "getattr", "setattr", "next"}:
            yield f"L8 {name}"
        if name == "iter" and getattr(file.parents[file.parents[node]], "name", "") != "__iter__":
            yield "L8 iter"
        if name == "super":
            used = file.parents[file.parents[node]]
            if not isinstance(used, ast.Call) or file.parents[node].attr != "__init__":
                yield f"L5 super: line {node.lineno}"
        if hasattr(builtins, name):
            allowed = {"sorted": {"key", "reverse"}, "min": {"key", "default"}, "max": {"key", "default"},
                       "sum": {"start"}, "enumerate": {"start"}, "zip": {"strict"}}
            if {part.arg for part in node.keywords} - allowed.get(name, set()):
                yield f"L22 {name}"
        if name in LIBRARY["math"] and node.keywords:
            yield f"L2 {name}"
        if any(isinstance(part, ast.Starred) for part in node.args) or None in [part.arg for part in node.keywords]:
            yield f"star: line {node.lineno}"
        if name in NOWHERE or hasattr(builtins, name) and name not in BUILTINS:
            yield f"L8 {name}"


def run_by_signs(files):
    """The functions and methods that operators, properties and the like run, directly or through others."""
    defined = {}
    found = []
    homes = {}
    for file in files:
        for node in file.of(ast.FunctionDef):
            home = file.parents[node]
            homes[node] = getattr(home, "name", "")
            defined.setdefault(node.name, []).append(node)
            if node.name == "__init__":
                defined.setdefault(home.name, []).append(node)
            if node.name in RUN_BY_SIGNS or "property" in [ast.unparse(part) for part in node.decorator_list]:
                found.append(node)
    for node in found:
        for part in ast.walk(node):
            if isinstance(part, ast.Call):
                name = part.func.attr if isinstance(part.func, ast.Attribute) else getattr(part.func, "id", "")
                reached = defined.get(name, [])
                # super().__init__ is one of a class above, not that of any class.
                if name == "__init__":
                    reached = [other for other in reached if homes[other] in family(homes[node], files)]
                found.extend([other for other in reached if other not in found])
    return found


def is_created(value):
    """Whether a value is a new list or dict whatever happens."""
    if isinstance(value, (ast.List, ast.Dict, ast.ListComp, ast.DictComp)):
        return True
    if isinstance(value, ast.Call) and isinstance(value.func, ast.Name):
        return value.func.id in {"list", "dict", "sorted"}
    if isinstance(value, ast.BinOp):
        return isinstance(value.op, ast.Mult) and isinstance(value.left, ast.List)
    return isinstance(value, ast.Subscript) and isinstance(value.slice, ast.Slice)


def signs(file, files):
    """L5: what operators, properties, `==`, `str` and `len` run changes only lists and dicts that it created."""
    for node in [one for one in run_by_signs(files) if one in file.parents]:
        told = {part.arg for part in ast.walk(node) if isinstance(part, ast.arg)}
        bound = {}
        for part in ast.walk(node):
            if isinstance(part, ast.Assign) and isinstance(part.targets[0], ast.Name):
                bound.setdefault(part.targets[0].id, []).append(part.value)
        loops = {part.id for part in ast.walk(node) if isinstance(part, ast.Name) and isinstance(part.ctx, ast.Store)
                 and not isinstance(file.parents[part], ast.Assign)}
        own = {name for name in bound if all([is_created(value) for value in bound[name]])} - told - loops
        for part in ast.walk(node):
            if isinstance(part, ast.Subscript) and not isinstance(part.ctx, ast.Load):
                if not isinstance(part.value, ast.Name) or part.value.id not in own:
                    yield f"L5 item in {node.name}"
            if isinstance(part, ast.Attribute) and not isinstance(part.ctx, ast.Load):
                if node.name != "__init__" or ast.unparse(part.value) != node.args.args[0].arg:
                    yield f"L5 attribute in {node.name}"
            if isinstance(part, ast.Call) and isinstance(part.func, ast.Attribute) and part.func.attr in MODIFYING:
                target = part.func.value
                if isinstance(target, ast.Call) and ast.unparse(target.func).endswith(".setdefault"):
                    target = target.func.value
                if not isinstance(target, ast.Name) or target.id not in own:
                    yield f"L5 {part.func.attr} in {node.name}"
            # A class method makes its object by cls(..), which L5 allows.
            called = part.func.id if isinstance(part, ast.Call) and isinstance(part.func, ast.Name) else "cls"
            if called != "cls" and called in told | set(bound) | loops:
                yield f"L5 call in {node.name}"
            if isinstance(part, (ast.Global, ast.Nonlocal)):
                yield f"L5 {node.name}"


def is_iterated(file, node):
    parent = file.parents[node]
    if isinstance(parent, (ast.For, ast.comprehension)):
        return parent.iter is node
    if isinstance(parent, ast.YieldFrom):
        return True
    return isinstance(parent, ast.Call) and isinstance(parent.func, ast.Name) and parent.func.id in AT_ONCE


def words(file, files):
    """L17, L27: words that do not occur outside of comments and docstrings, escapes, tabs."""
    lines = iter(file.text.splitlines(keepends=True))
    before = tokenize.INDENT
    for token in tokenize.generate_tokens(lambda: next(lines, "")):
        if token.type == tokenize.NAME and token.string in WORDS:
            yield f"L17 {token.string}"
        docstring = before in (tokenize.INDENT, tokenize.NEWLINE, tokenize.NL, tokenize.DEDENT)
        if token.type == tokenize.STRING:
            if not docstring and set(re.findall("[A-Za-z_]+", token.string)) & WORDS - {"type"}:
                yield f"L17 {token.string}"
            if re.search(r"\\[^nt\\'\"]", token.string):
                yield f"L27 {token.string}"
        if token.type != tokenize.COMMENT:
            before = token.type


RULES = [form, imports, top_level, classes, statements, values, names, calls, signs, words]


def cycles(files):
    """L16: files that import each other, directly or through others."""
    needs = {file.name: {node.module.split(".")[-1] for node in file.of(ast.ImportFrom)} for file in files}
    while needs:
        free = [name for name in needs if not needs[name] & set(needs)]
        if not free:
            return sorted(needs)
        for name in free:
            del needs[name]
    return []


class Language(unittest.TestCase):

    def test_rules(self):
        files = package()
        self.assertGreater(len(files), 10)
        for file in files:
            for rule in RULES:
                with self.subTest(file.name + " " + rule.__name__):
                    self.assertEqual(list(rule(file, files)), [])

    def test_the_folder_has_nothing_else(self):
        others = [path.name for path in PACKAGE.iterdir() if path.suffix != ".py" and path.name != "__pycache__"]
        self.assertEqual(others, [])
        self.assertTrue((PACKAGE / "__init__.py").exists())
        self.assertLessEqual(len(list(PACKAGE.iterdir())), 100)

    def test_no_import_cycles(self):
        self.assertEqual(cycles(package()), [])

    def test_augmented_assignments_are_not_used(self):
        for file in package():
            self.assertEqual(file.of(ast.AugAssign), [])


BROKEN = """
TABLE = {"a": later, "b": [1]}
def later(): return 1
def several():
    try:
        later()
    except Bad as one:
        raise Bad("x") from other
    except Worse as one:
        raise Bad("x") from one
    raise
import os
from math import sqrt
from spotheights.ratios import nothing
from spotheights.ratios import Ratio as R
K = len("ab")
x = 1.5
x = 2
def f(a=1, *rest): return a / 2
def sum(): return 1
def g(n): return 2 ** n
def h(a): return a is 3
def k(): return "100%"
def m(): return chr(7)
def o(xs): return zip(xs, xs)
def p(xs): return {1, 2}
def q(xs): return any(x for x in xs)
def r():
    try:
        r()
    except ValueError:
        raise s()
def t(f): return f.unknown()
def u(): return "\\r"
async def v(): pass
def w(): global K; K = 3
def y(self): return self.__dict__
def _wall_a(register): return typing
def aa(x): return sorted(x, strict=True)
def bb(x): x += 1
def cc(): return b"a"
@cache
class C:
    def __hash__(self): return 1
    def __str__(self):
        a = 1
        if a: return ""
    def a(self): self.a = 1
    def a(self): return 2
    def __init__(self): return None
    b = sum([])
    def __len__(self): return 3
    def __iter__(self):
        for row in self.rows: yield row
    def __add__(self, other):
        self.rows.append(1)
        other[0] = 2
        self.n = 3
        return changes(self.rows)
    def __eq__(self, other): return other(self)
    def b2(self): return super().b2()
def changes(rows):
    rows.pop()
    own = []
    own.append(1)
    return iter(rows)
""" + "d = '" + "x" * 120 + "'\n" + "e = '\u00e9'\n" + "def long():\n" + "    pass\n" * 41 + "\n" * 400


class Rules(unittest.TestCase):

    def test_broken_rules_are_found(self):
        files = package()
        broken = File("Len", BROKEN)
        found = " ".join([str(text) for rule in RULES for text in rule(broken, files)])
        for number in ["L2", "L3", "L4", "L5", "L6", "L7", "L8", "L10", "L12", "L14", "L15", "L16", "L17", "L18", "L19",
                       "L20", "L22", "L23", "L25", "L27", "L28"]:
            with self.subTest(number):
                self.assertRegex(found, number + r"\b")

    def test_changes_by_operators_are_found(self):
        broken = File("Len", BROKEN)
        found = list(signs(broken, [broken]))
        self.assertEqual(sorted(found), ["L5 append in __add__", "L5 attribute in __add__", "L5 call in __eq__",
                                         "L5 item in __add__", "L5 pop in changes"])
        found = list(classes(broken, [broken])) + list(calls(broken, [broken]))
        for text in ["L5 body of C", "L5 __iter__", "L28 __len__", "L8 iter"]:
            self.assertIn(text, found)
        self.assertIn("L5 super", " ".join(found))

    def test_causes_and_names_of_errors_are_found(self):
        broken = File("Len", BROKEN)
        found = list(statements(broken, [File("errors", "class Bad(ValueError):\n    pass\n"), broken]))
        self.assertEqual([text for text in found if "cause" in text or "name" in text],
                         ["L19 cause line 8", "L19 name in several"])
        self.assertIn("L19 line 11", found)
        self.assertNotIn("L19 line 10", found)

    def test_tables_are_looked_at(self):
        found = list(top_level(File("Len", BROKEN), []))
        self.assertIn("L3 table line 2", found)
        self.assertIn("L15 table line 2", found)

    def test_what_operators_run_is_looked_through(self):
        names = {node.name for node in run_by_signs(package())}
        for name in ["kernel", "echelon", "coordinates", "embedded", "_canonical_basis", "_check_independent",
                     "answers_to", "place_of"]:
            self.assertIn(name, names)
        # An error's super().__init__ is not that of any class.
        self.assertNotIn("lowest_parts", names)

    def test_names_in_families_of_classes_are_found(self):
        first = File("a", "class A:\n    def low(self): return 1\n")
        second = File("b", "class B(A):\n    def __init__(self): self.low = 2\nclass D(B):\n    pass\n")
        self.assertEqual(family("A", [first, second]), ["B", "D"])
        self.assertIn("L18 B", list(classes(second, [first, second])))

    def test_cycles_are_found(self):
        first, second = File("a", "from spotheights.b import c"), File("b", "from spotheights.a import d")
        self.assertEqual(cycles([first, second]), ["a", "b"])


if __name__ == "__main__":
    unittest.main()
