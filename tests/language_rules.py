"""What a short script can see of the rules of LANGUAGE.md.

`complaints` takes the files of a package as a dict of module names and source texts and
returns a list of rows such as "boards:12 L7 a float". The numbers are those of the rules.
"""

import ast
import builtins
import re

from language_tools import CHANGING, FUNCTIONS, called, nodes
from language_uses import RULES

LIBRARY = {
    "heapq": {"heappush", "heappop", "heapify", "heapreplace", "heappushpop"},
    "math": {"gcd", "lcm", "isqrt", "comb", "perm", "factorial"},
    "itertools": {
        "product", "combinations", "permutations", "chain", "accumulate", "pairwise", "islice", "zip_longest",
    },
    "collections": {"defaultdict", "deque"},
    "__future__": {"annotations"},
}
BUILTINS = set("""
    len range enumerate zip min max sum abs sorted reversed int str bool bytes list tuple dict set isinstance ord
    repr any all divmod pow getattr hasattr setattr map iter next type super property staticmethod classmethod
    object Exception ValueError TypeError KeyError IndexError LookupError ZeroDivisionError ArithmeticError
    OverflowError RuntimeError NotImplementedError AttributeError StopIteration NotImplemented
""".split())
SPECIAL = set("""
    __init__ __eq__ __repr__ __str__ __len__ __enter__ __exit__ __call__ __iter__ __lt__ __le__ __gt__ __ge__ __ne__
    __neg__ __pos__ __invert__ __abs__ __bool__ __contains__ __getitem__ __setitem__
""".split())
for word in "add sub mul floordiv mod pow and or xor lshift rshift".split():
    SPECIAL |= {f"__{word}__", f"__r{word}__", f"__i{word}__"} - {"__rpow__"}
METHODS = set("""
    append clear copy count endswith extend find get index insert isalnum isalpha isdigit islower isspace isupper items
    join keys ljust lower lstrip partition pop remove replace reverse rfind rjust rpartition rsplit rstrip setdefault
    split splitlines startswith strip update upper values zfill bit_length title capitalize swapcase casefold center
    expandtabs removeprefix removesuffix rindex isascii isdecimal isnumeric istitle isidentifier isprintable translate
    maketrans sort format add discard encode decode hex from_bytes from_iterable __init__
    appendleft popleft extendleft rotate
""".split())
LOCAL_NAMES = set("object id format credits license copyright quit callable complex ascii oct aiter anext".split())
BARRED_NAMES = set("mro elements open input law version_info with_traceback add_note".split())
BARRED_WORDS = set("""
    typing typing_extensions enum Enum IntEnum StrEnum Flag IntFlag Generic Protocol ABC ABCMeta namedtuple
    NamedTuple TypedDict TYPE_CHECKING abstractmethod dataclass overload contextmanager eval exec compile globals
    locals vars dir breakpoint importlib os sys gc
""".split())
BUILTIN_NAMES = [name for name in dir(builtins) if not name.startswith("_")]
BARRED_FILES = {"test", "tests", "testing", "site", "conftest", "sitecustomize", "usercustomize"}
VIEWS = {"zip", "enumerate", "reversed", "map", "range"}
TAKERS = set("list tuple dict sorted sum any all enumerate zip min max".split())
KEYWORDS = {
    "sorted": {"key", "reverse"}, "min": {"key", "default"}, "max": {"key", "default"}, "sum": {"start"},
    "enumerate": {"start"}, "zip": {"strict"}, "print": {"file", "sep", "end"}, "dict": set(),
}
CAUGHT = {"KeyError", "ZeroDivisionError", "StopIteration", "ValueError", "LookupError", "IndexError"}
ONCE = set("list tuple dict sorted sum min max any all enumerate zip".split())
PLAIN = (
    ast.Constant, ast.List, ast.Tuple, ast.Dict, ast.Name, ast.UnaryOp, ast.BinOp, ast.Load, ast.operator, ast.unaryop,
)


def complaints(files):
    """Return what the script finds in the files of a package, in the order of the files."""
    trees = {name: ast.parse(text) for name, text in files.items()}
    found = []
    for name, text in files.items():
        rows = []
        for rule in [file_name, sizes, characters, strings]:
            rows += rule(name, text, trees[name])
        for rule in [
            module_level, decorators, special_methods, statements, values, names, errors, identity, views, sets,
            keywords, changes_in_loops,
        ]:
            rows += rule(trees[name])
        rows += imports(name, trees)
        for rule in [methods, generators, beside_eq, *RULES]:
            rows += rule(trees[name], trees)
        found += [f"{name}:{line} {told}" for line, told in sorted(rows)]
    return found


def file_name(name, text, tree):
    wrong = not re.fullmatch("__init__|__main__|[a-z][a-z0-9_]*", name)
    barred = name in BARRED_FILES or name.startswith(("law_", "test_")) or name in BUILTIN_NAMES
    return [(1, "L14 the file's name")] if wrong or barred else []


def sizes(name, text, tree):
    lines = text.split("\n")
    found = [(at, "L10 a line of over 120 characters") for at, line in enumerate(lines, 1) if len(line) > 120]
    if len(text.splitlines()) > 399:
        found.append((400, "L10 a file of over 399 lines"))
    for node in nodes(tree, *FUNCTIONS):
        first = min([node.lineno] + [mark.lineno for mark in node.decorator_list])
        if node.end_lineno - first + 1 > 40:
            found.append((first, "L10 a function of over 40 lines"))
    return found


def characters(name, text, tree):
    found = []
    for at, line in enumerate(text.split("\n"), 1):
        if not re.fullmatch("[ -~]*", line):
            found.append((at, "L14 a character that is not from the space to ~"))
        if re.search(r"\b(_wall|_WallAttr)\b", line):
            found.append((at, "L12 a barred word"))
    return found


def docstrings(tree):
    bodies = [node.body for node in nodes(tree, ast.Module, ast.ClassDef, *FUNCTIONS)]
    firsts = [body[0].value for body in bodies if body and isinstance(body[0], ast.Expr)]
    return [first for first in firsts if isinstance(first, ast.Constant)]


def strings(name, text, tree):
    found = []
    for at, line in enumerate(text.split("\n"), 1):
        if re.search(r"""\\[^nt\\'"]""", re.sub(r"\\\\", "", line)):
            found.append((at, "L27 an escape"))
    told = docstrings(tree)
    for node in nodes(tree, ast.Constant):
        if isinstance(node.value, str) and not any(node is first for first in told):
            wrong = "%" in node.value or node.value.endswith(("._", ".__"))
            if wrong or re.fullmatch("__.*__", node.value) and node.value != "__main__":
                found.append((node.lineno, "L27 a string"))
    return found


def is_docstring(node):
    return isinstance(node, ast.Expr) and isinstance(node.value, ast.Constant) and isinstance(node.value.value, str)


def module_level(tree):
    found, bound, imports_end = [], [], False
    for node in tree.body:
        if isinstance(node, ast.ImportFrom):
            bound += [part.asname or part.name for part in node.names]
            found += [(node.lineno, "L2 an import that is not at the top")] * imports_end
        elif isinstance(node, (ast.FunctionDef, ast.ClassDef)):
            bound.append(node.name)
        elif isinstance(node, ast.Assign) and len(node.targets) == 1 and isinstance(node.targets[0], ast.Name):
            bound.append(node.targets[0].id)
            if not all(isinstance(part, PLAIN) for part in ast.walk(node.value)):
                found.append((node.lineno, "L3 a value that is not plain"))
        elif not is_docstring(node):
            found.append((node.lineno, "L3 a statement at module level"))
        imports_end = imports_end or not isinstance(node, ast.ImportFrom) and not is_docstring(node)
    found += [(1, f"L15 {name} is bound twice") for name in sorted(set(bound)) if bound.count(name) > 1]
    inner = [node for node in nodes(tree, ast.ClassDef) if node not in tree.body]
    return found + [(node.lineno, "L15 a class that is not at module level") for node in inner]


def decorators(tree):
    methods_found = [node for owner in nodes(tree, ast.ClassDef) for node in owner.body]
    found = [(node.lineno, "L5 a decorator over a class") for node in nodes(tree, ast.ClassDef) if node.decorator_list]
    for node in nodes(tree, *FUNCTIONS):
        marks = [ast.unparse(mark) for mark in node.decorator_list]
        known = ["property", "staticmethod", "classmethod", f"{node.name}.setter"]
        if marks and (len(marks) > 1 or marks[0] not in known or node not in methods_found):
            found.append((node.lineno, "L4 a decorator"))
    return found


def special_methods(tree):
    found = []
    for owner in nodes(tree, ast.ClassDef):
        for node in [node for node in owner.body if isinstance(node, ast.FunctionDef)]:
            if node.name.startswith("__") and node.name not in SPECIAL:
                found.append((node.lineno, "L5 a double-underscore method"))
            if node.name == "__eq__" and "isinstance(" not in ast.unparse(node.body[0]):
                found.append((node.lineno, "L28 the first statement of __eq__"))
            if node.name == "__len__":
                rows = [ast.unparse(row.value) for row in nodes(node, ast.Return)]
                if not all(re.match(r"len\(|[0-9]+$", row) for row in rows):
                    found.append((node.lineno, "L28 a return of __len__"))
            if node.name == "__init__" and nodes(node, ast.Return):
                found.append((node.lineno, "L28 a return in __init__"))
    return found


def statements(tree):
    barred = nodes(tree, ast.AsyncFunctionDef, ast.AsyncFor, ast.AsyncWith, ast.Await, ast.TryStar)
    found = [(node.lineno, "L6 a statement") for node in barred]
    for node in nodes(tree, ast.For, ast.comprehension):
        if isinstance(node.iter, (ast.Set, ast.SetComp)) or ast.unparse(node.iter).startswith(("set(", "frozenset(")):
            found.append((node.iter.lineno, "L24 a set that is iterated"))
    return found


def values(tree):
    found = []
    for node in nodes(tree, ast.Constant):
        if isinstance(node.value, (float, complex)):
            found.append((node.lineno, "L7 a float"))
    for node in nodes(tree, ast.BinOp, ast.AugAssign):
        if isinstance(node.op, (ast.Div, ast.MatMult)):
            found.append((node.lineno, "L7 a sign"))
        if isinstance(node.op, ast.Pow):
            power = node.right if isinstance(node, ast.BinOp) else node.value
            known = isinstance(power, ast.Constant) and power.value in range(65)
            if not known and not isinstance(power, ast.Name) and "%" not in ast.unparse(power):
                found.append((node.lineno, "L27 an exponent"))
    takers = r"(list|tuple|dict|sorted|sum|min|max|any|all|'.*'\.join)\("
    for node in nodes(tree, ast.GeneratorExp):
        parents = [ast.unparse(call) for call in nodes(tree, ast.Call) if node in call.args]
        if not parents or not re.match(takers, parents[0]):
            found.append((node.lineno, "L7 a generator expression"))
    return found


def names(tree):
    bound, special = [], [node for owner in nodes(tree, ast.ClassDef) for node in owner.body]
    bound += [(node.name, node.lineno) for node in nodes(tree, ast.ClassDef, *FUNCTIONS) if node not in special]
    own = [(node.arg, node.lineno) for node in nodes(tree, ast.arg)]
    own += [(node.id, node.lineno) for node in nodes(tree, ast.Name) if isinstance(node.ctx, ast.Store)]
    found = [(line, f"L15 {name}") for name, line in bound + own if hasattr(builtins, name) and name not in LOCAL_NAMES]
    told = bound + own + [(node.attr, node.lineno) for node in nodes(tree, ast.Attribute)]
    told += [(node.name, node.lineno) for node in special if isinstance(node, ast.FunctionDef)]
    for name, line in told:
        plain = re.fullmatch("_?[A-Za-z][A-Za-z0-9_]*|_", name) and not name.startswith(("_wall", "_lay_", "_law_"))
        if not plain and name not in SPECIAL and name not in ("__class__", "__name__"):
            found.append((line, f"L12 {name}"))
        if name in BARRED_NAMES:
            found.append((line, f"L17 {name}"))
    mine = [name for name, _ in bound + own]
    for node in nodes(tree, ast.Name):
        if hasattr(builtins, node.id) and node.id not in BUILTINS and node.id not in mine:
            found.append((node.lineno, f"L8 {node.id}"))
        if node.id in BARRED_WORDS:
            found.append((node.lineno, f"L17 {node.id}"))
    return found


def errors(tree):
    found = []
    for node in nodes(tree, ast.ExceptHandler):
        parts = node.type.elts if isinstance(node.type, ast.Tuple) else [node.type]
        for part in parts:
            name = part.id if isinstance(part, ast.Name) else None
            if name is None or hasattr(builtins, name) and name not in CAUGHT:
                found.append((node.lineno, "L19 a handler"))
    for node in nodes(tree, ast.Raise):
        if node.exc and not (isinstance(node.exc, ast.Call) and isinstance(node.exc.func, ast.Name)):
            found.append((node.lineno, "L19 a raise"))
    return found


def identity(tree):
    found = []
    for node in nodes(tree, ast.Compare):
        for sign, side in zip(node.ops, node.comparators):
            if isinstance(sign, (ast.Is, ast.IsNot)) and ast.unparse(side) not in ("None", "True", "False"):
                found.append((node.lineno, "L20 is"))
    return found


def defined(tree):
    known = [node.name for node in tree.body if isinstance(node, (ast.FunctionDef, ast.ClassDef))]
    return known + [node.targets[0].id for node in tree.body if isinstance(node, ast.Assign)]


def imported(name, trees, package):
    sources = [node.module or "" for node in nodes(trees[name], ast.ImportFrom)]
    sources = [source.removeprefix(package + ".") for source in sources if source.startswith(package + ".")]
    return [source for source in sources if source in trees]


def imports(name, trees, package="tokenlanes"):
    found = [(node.lineno, "L16 the form of an import") for node in nodes(trees[name], ast.Import)]
    for node in nodes(trees[name], ast.ImportFrom):
        source = (node.module or "").removeprefix(package + ".")
        known = LIBRARY.get(node.module, ())
        if (node.module or "").startswith(package + ".") and source in trees:
            known = defined(trees[source])
        if node.level or not all(part.name in known for part in node.names):
            found.append((node.lineno, "L2 or L16 an import"))
    reached = imported(name, trees, package)
    for source in reached:
        reached += [further for further in imported(source, trees, package) if further not in reached]
    return found + [(1, "L16 files that import from each other")] * (name in reached)


def methods(tree, trees):
    owners = [owner for each in trees.values() for owner in nodes(each, ast.ClassDef)]
    own = [node.name for owner in owners for node in owner.body if isinstance(node, ast.FunctionDef)]
    calls = [node for node in nodes(tree, ast.Call) if isinstance(node.func, ast.Attribute)]
    return [
        (node.lineno, f"L25 the method {node.func.attr}") for node in calls
        if node.func.attr not in METHODS and node.func.attr not in own
    ]


def generators(tree, trees):
    functions = [node for each in trees.values() for node in nodes(each, ast.FunctionDef)]
    yielding = [node.name for node in functions if nodes(node, ast.Yield, ast.YieldFrom)]
    good = [node.iter for node in nodes(tree, ast.For, ast.comprehension)]
    good += [node.value for node in nodes(tree, ast.YieldFrom, ast.Assign)]
    for node in nodes(tree, ast.Call):
        if isinstance(node.func, ast.Name) and node.func.id in ONCE or ast.unparse(node.func).endswith(".join"):
            good += node.args
    calls = [node for node in nodes(tree, ast.Call) if ast.unparse(node.func).split(".")[-1] in yielding]
    return [(node.lineno, "L23 the call of a generator") for node in calls if node not in good]


def views(tree):
    """Return where a zip and the like is neither iterated on the spot nor kept by a name."""
    good = [node.iter for node in nodes(tree, ast.For, ast.comprehension)]
    good += [node.value for node in nodes(tree, ast.Assign) if isinstance(node.targets[0], ast.Name)]
    for node in nodes(tree, ast.Call):
        if called(node) in TAKERS or isinstance(node.func, ast.Attribute) and node.func.attr == "join":
            good += node.args[:1] if called(node) != "zip" else node.args
    ranges = [node for node in nodes(tree, ast.Call) if called(node) == "range"]
    good += [node for each in nodes(tree, ast.Compare) for node in each.comparators if node in ranges]
    for each in nodes(tree, ast.Call):
        if called(each) in ("len", "reversed"):
            good += [node for node in each.args if node in ranges]
    return [
        (node.lineno, f"L23 a {called(node)} that is not iterated") for node in nodes(tree, ast.Call)
        if called(node) in VIEWS and node not in good
    ]


def sets(tree):
    """Return where a set stands in a place that is not listed."""
    made = nodes(tree, ast.Set, ast.SetComp) + [node for node in nodes(tree, ast.Call) if called(node) == "set"]
    good = [node.value for node in nodes(tree, ast.Assign) if isinstance(node.targets[0], ast.Name)]
    for node in nodes(tree, ast.Compare):
        good += node.comparators
        good += [node.left] if isinstance(node.ops[0], (ast.Eq, ast.NotEq)) else []
    good += [node.args[0] for node in nodes(tree, ast.Call) if called(node) in ("sorted", "len") and node.args]
    return [(node.lineno, "L24 the place of a set") for node in made if node not in good]


def keywords(tree):
    found = []
    for node in nodes(tree, ast.Call):
        if called(node) in BUILTINS:
            known = KEYWORDS.get(called(node), set())
            if not all(part.arg in known for part in node.keywords):
                found.append((node.lineno, f"L22 a keyword of {called(node)}"))
    return found


def changes_in_loops(tree):
    """Return the loops that change, by its very name, what they iterate over."""
    found = []
    for loop in nodes(tree, ast.For):
        told = loop.iter.args if called(loop.iter) in VIEWS else [loop.iter]
        told = [
            part.func.value if isinstance(part, ast.Call) and isinstance(part.func, ast.Attribute) else part
            for part in told
        ]
        over = [ast.unparse(part) for part in told if isinstance(part, (ast.Name, ast.Attribute, ast.Subscript))]
        for node in [inner for row in loop.body for inner in ast.walk(row)]:
            changed = None
            if isinstance(node, ast.Call) and isinstance(node.func, ast.Attribute) and node.func.attr in CHANGING:
                changed = ast.unparse(node.func.value)
            elif isinstance(node, ast.Subscript) and not isinstance(node.ctx, ast.Load):
                changed = ast.unparse(node.value)
            if changed in over:
                found.append((node.lineno, f"L23 the loop changes {changed}"))
    return found


def beside_eq(tree, trees):
    """Return what does not stand in a package with a class that has __eq__ or __len__."""
    own = [node.name for each in trees.values() for node in nodes(each, ast.FunctionDef)]
    if "__eq__" not in own and "__len__" not in own:
        return []
    found = [
        (node.lineno, "L25 sort beside __eq__ or __len__") for node in nodes(tree, ast.Call)
        if isinstance(node.func, ast.Attribute) and node.func.attr == "sort"
    ]
    for node in nodes(tree, ast.Call):
        if called(node) in ("any", "all", "min", "max", "sum", "sorted"):
            inner = [part for part in node.args if isinstance(part, ast.GeneratorExp)]
            found += [(node.lineno, "L7 a generator expression beside __eq__")] * len(inner)
    return found
