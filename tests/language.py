"""Looks for breaches of the rules of the language, as far as a plain look at the code tells them."""

import ast
import builtins
import re

LIBRARY = {
    "heapq": {"heappush", "heappop", "heapify", "heapreplace", "heappushpop"},
    "math": {"gcd", "lcm", "isqrt", "comb", "perm", "factorial"},
    "itertools": {
        "product", "combinations", "permutations", "chain", "accumulate", "pairwise", "islice", "zip_longest",
    },
    "collections": {"defaultdict"},
    "__future__": {"annotations"},
}
BUILTINS = set(
    "len range enumerate zip min max sum abs sorted reversed int str bool list tuple dict set isinstance ord repr any "
    "all divmod iter next map Exception ValueError TypeError KeyError IndexError LookupError ZeroDivisionError "
    "ArithmeticError OverflowError RuntimeError NotImplementedError AttributeError StopIteration NotImplemented "
    "property staticmethod classmethod super".split()
)
METHODS = set(
    "append clear copy count endswith extend find get index insert isalnum isalpha isdigit islower isspace isupper "
    "items join keys ljust lower lstrip partition pop remove replace reverse rfind rjust rpartition rsplit rstrip "
    "setdefault split splitlines startswith strip update upper values zfill bit_length add discard sort".split()
)
NO_ATTRIBUTES = set(
    "items keys values pop update append clear extend insert remove reverse setdefault sort args encode decode hex "
    "fromhex format".split()
)
DOUBLE = set("__init__ __eq__ __repr__ __str__ __len__ __enter__ __exit__ __call__ __iter__".split())
NOWHERE = set("register mro elements open input law version_info with_traceback add_note".split())
NO_WORDS = set(
    "type typing typing_extensions enum Enum IntEnum StrEnum Flag IntFlag Generic Protocol ABC ABCMeta namedtuple "
    "NamedTuple TypedDict TYPE_CHECKING abstractmethod dataclass overload contextmanager".split()
)
NO_NODES = (
    ast.Global, ast.AsyncFunctionDef, ast.AsyncFor, ast.AsyncWith, ast.Await, ast.TryStar, ast.Div, ast.MatMult,
)
PLAIN_NAME = re.compile("_?[a-zA-Z][a-zA-Z0-9_]*|_")
CLASS_NAME = re.compile("[a-zA-Z][a-zA-Z0-9_]*")


def docstrings(tree):
    """The constants that are docstrings."""
    found = []
    for node in ast.walk(tree):
        if isinstance(node, (ast.Module, ast.ClassDef, ast.FunctionDef)) and ast.get_docstring(node) is not None:
            found.append(node.body[0].value)
    return found


def bound_names(tree):
    """The pairs (name, line) of all that is given a name."""
    for node in ast.walk(tree):
        if isinstance(node, (ast.FunctionDef, ast.ClassDef)):
            yield node.name, node.lineno
        elif isinstance(node, ast.arg):
            yield node.arg, node.lineno
        elif isinstance(node, ast.Name) and not isinstance(node.ctx, ast.Load):
            yield node.id, node.lineno
        elif isinstance(node, ast.ExceptHandler) and node.name:
            yield node.name, node.lineno
        elif isinstance(node, ast.alias):
            yield node.asname or node.name, node.lineno


def text_breaches(text):
    """L10, L14."""
    lines = text.split("\n")
    if len(lines) - 1 > 399:
        yield "L10", 0
    for at, line in enumerate(lines, 1):
        if len(line) > 120:
            yield "L10", at
        if any(not " " <= sign <= "~" for sign in line):
            yield "L14", at


def module_breaches(package, tree):
    """L2, L3, L16."""
    seen = {}
    for at, node in enumerate(tree.body):
        if isinstance(node, ast.ImportFrom):
            inside = node.level == 0 and node.module.split(".")[0] == package
            for name in node.names:
                if not inside and name.name not in LIBRARY.get(node.module, ()):
                    yield "L2", node.lineno
                if name.name == "*" or name.asname:
                    yield "L2", node.lineno
        elif isinstance(node, ast.Expr):
            if at > 0 or not isinstance(node.value, ast.Constant) or not isinstance(node.value.value, str):
                yield "L3", node.lineno
        elif isinstance(node, ast.Assign):
            if len(node.targets) > 1 or not isinstance(node.targets[0], ast.Name):
                yield "L3", node.lineno
            if any(isinstance(part, (ast.Call, ast.comprehension)) for part in ast.walk(node.value)):
                yield "L3", node.lineno
        elif not isinstance(node, (ast.FunctionDef, ast.ClassDef)):
            yield "L3", node.lineno
        names = [node.name] if isinstance(node, (ast.FunctionDef, ast.ClassDef)) else []
        names += [name for name, _ in bound_names(node)] if isinstance(node, (ast.ImportFrom, ast.Assign)) else []
        for name in names:
            if name in seen:
                yield "L15", node.lineno
            seen[name] = True
    for node in ast.walk(tree):
        if isinstance(node, ast.Import) or isinstance(node, ast.ImportFrom) and node not in tree.body:
            yield "L2", node.lineno


def name_breaches(tree):
    """L8, L12, L15, L17."""
    fixed = [part.name for part in tree.body if isinstance(part, ast.ClassDef)]
    fixed += [name.name for part in tree.body if isinstance(part, ast.ImportFrom) for name in part.names]
    bound = list(bound_names(tree))
    for name, line in bound:
        if not PLAIN_NAME.fullmatch(name) and name not in DOUBLE:
            yield "L12", line
        if hasattr(builtins, name) and name not in DOUBLE:
            yield "L15", line
        if [other for other, _ in bound].count(name) > 1 and name in fixed:
            yield "L15", line
        if name in NOWHERE or name in NO_WORDS:
            yield "L17", line
    own = [name for name, _ in bound]
    for node in ast.walk(tree):
        # What is plain for all other names is not for a class: no underscore ahead.
        if isinstance(node, ast.ClassDef) and not CLASS_NAME.fullmatch(node.name):
            yield "L12", node.lineno
        if isinstance(node, ast.Name) and isinstance(node.ctx, ast.Load):
            if node.id == "_" or node.id not in own and node.id not in BUILTINS:
                yield "L8", node.lineno
        if isinstance(node, ast.Attribute) and (node.attr in NOWHERE or node.attr.startswith("__")):
            if node.attr not in DOUBLE:
                yield "L17", node.lineno


def functions_in(tree):
    """The names of all functions and methods of a file."""
    return [node.name for node in ast.walk(tree) if isinstance(node, ast.FunctionDef)]


def code_breaches(tree, methods):
    """L4 to L7, L10, L20, L24, L25, L27; methods are the names of those of other files."""
    told = docstrings(tree)
    parents = {child: node for node in ast.walk(tree) for child in ast.iter_child_nodes(node)}
    methods = functions_in(tree) + list(methods)
    for node in ast.walk(tree):
        line = getattr(node, "lineno", 0)
        if isinstance(node, NO_NODES):
            yield "L6", line
        if isinstance(node, (ast.FunctionDef, ast.ClassDef)) and node.decorator_list:
            if isinstance(node, ast.ClassDef) or not isinstance(parents[node], ast.ClassDef):
                yield "L4", line
        if isinstance(node, ast.FunctionDef) and node.end_lineno - node.lineno + 1 > 40:
            yield "L10", line
        if isinstance(node, ast.Constant) and isinstance(node.value, (float, complex, bytes, type(...))):
            yield "L7", line
        if isinstance(node, ast.Constant) and isinstance(node.value, str) and node not in told:
            if "%" in node.value or "\r" in node.value or node.value.endswith(("._", ".__")):
                yield "L27", line
            if NO_WORDS & set(re.findall("[A-Za-z_]+", node.value)):
                yield "L17", line
        if isinstance(node, ast.Compare):
            for sign, side in zip(node.ops, node.comparators):
                if isinstance(sign, (ast.Is, ast.IsNot)) and not isinstance(side, ast.Constant):
                    yield "L20", line
        if isinstance(node, ast.Call) and isinstance(node.func, ast.Name) and node.func.id == "set":
            holder = parents[node]
            if not (isinstance(holder, ast.Call) and getattr(holder.func, "id", "") in ("sorted", "len")):
                yield "L24", line
        if isinstance(node, (ast.Set, ast.SetComp)):
            yield "L24", line
        if isinstance(node, ast.Call) and isinstance(node.func, ast.Attribute):
            if node.func.attr not in METHODS and node.func.attr not in methods and node.func.attr not in DOUBLE:
                yield "L25", line


def class_breaches(tree):
    """L18, L26: what is a method and an attribute in one class, and names that no attribute has."""
    for node in ast.walk(tree):
        if isinstance(node, ast.ClassDef):
            methods = [part.name for part in node.body if isinstance(part, ast.FunctionDef)]
            for part in ast.walk(node):
                if isinstance(part, ast.Attribute) and isinstance(part.ctx, ast.Store):
                    if part.attr in methods:
                        yield "L18", part.lineno
                    if part.attr in NO_ATTRIBUTES:
                        yield "L26", part.lineno


def breaches(package, text, others=()):
    """The ascending list of the pairs (rule, line) of what is found in the text of a file; others are those beside."""
    tree = ast.parse(text)
    methods = [name for other in others for name in functions_in(ast.parse(other))]
    found = list(text_breaches(text)) + list(module_breaches(package, tree)) + list(class_breaches(tree))
    found += list(name_breaches(tree)) + list(code_breaches(tree, methods))
    return sorted(set(found))


def imports_of(package, text):
    """The dict of the files of the package from which a file imports, with the names."""
    found = {}
    for node in ast.parse(text).body:
        if isinstance(node, ast.ImportFrom) and node.module.startswith(package + "."):
            found.setdefault(node.module[len(package) + 1:], []).extend([name.name for name in node.names])
    return found


def defined_in(text):
    """The names that a file itself defines."""
    tree = ast.parse(text)
    names = [part.name for part in tree.body if isinstance(part, (ast.FunctionDef, ast.ClassDef))]
    return names + [part.targets[0].id for part in tree.body if isinstance(part, ast.Assign)]
