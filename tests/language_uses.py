"""What a short script can see of the rules of LANGUAGE.md about how names are used.

Each rule takes the tree of a file and the trees of all files, and returns rows of a line and
a text, as the rules of `language_rules` do.
"""

import ast

from language_tools import CHANGING, FUNCTIONS, all_nodes, called, marks_of, nodes, owned

PRODUCTS = {"product", "combinations", "permutations"}
ONCE = set("list tuple sorted sum min max any all".split())
CONTAINERS = (ast.List, ast.Dict)


def products(tree, trees):
    """Return where one of L2 Products is not iterated at once."""
    good = [node.iter for node in nodes(tree, ast.For, ast.comprehension)]
    for node in nodes(tree, ast.Call):
        if called(node) in ONCE and not any(part.arg == "key" for part in node.keywords):
            good += node.args
    calls = [node for node in nodes(tree, ast.Call) if called(node) in PRODUCTS]
    return [(node.lineno, f"L2 a {called(node)} that is not iterated") for node in calls if node not in good]


def quiet_methods(tree, trees):
    """Return where a property, `__eq__` or `__len__` changes an attribute or an item."""
    found = []
    for node in owned({"": tree}):
        if "property" in marks_of(node) or node.name in ("__eq__", "__len__", "__repr__", "__str__"):
            stored = [part for part in nodes(node, ast.Attribute, ast.Subscript) if not isinstance(part.ctx, ast.Load)]
            # The items of a list that stands in a local variable may be those of one that it created.
            found += [
                (part.lineno, f"L5 or L28 {node.name} changes something") for part in stored
                if isinstance(part, ast.Attribute) or not isinstance(part.value, ast.Name)
            ]
            for call in nodes(node, ast.Call):
                if isinstance(call.func, ast.Attribute) and call.func.attr in CHANGING:
                    if not isinstance(call.func.value, ast.Name):
                        found.append((call.lineno, f"L5 or L28 {node.name} changes something"))
    return found


def attributes(tree, trees):
    """Return the attributes that are read and that no class assigns, and those that are methods too."""
    assigned = {node.attr for node in all_nodes(trees, ast.Attribute) if isinstance(node.ctx, ast.Store)}
    members = {node.name for node in owned(trees)}
    functions = [node.func for node in nodes(tree, ast.Call)]
    known = assigned | members | {"__name__", "__class__"}
    found = [
        (node.lineno, f"L18 the attribute {node.attr} that no class assigns") for node in nodes(tree, ast.Attribute)
        if isinstance(node.ctx, ast.Load) and node not in functions and node.attr not in known
    ]
    for owner in nodes(tree, ast.ClassDef):
        names = [node.name for node in owner.body if isinstance(node, FUNCTIONS)]
        own = [node.attr for node in nodes(owner, ast.Attribute) if isinstance(node.ctx, ast.Store)]
        found += [(owner.lineno, f"L18 {name} is defined twice") for name in set(names) if names.count(name) > 1]
        found += [(owner.lineno, f"L18 {name} is a method and an attribute") for name in set(own) & set(names)]
    return found


def starred(tree, trees):
    """Return the methods with a star that have no plain first parameter, and other wrong parameters."""
    found = []
    for node in owned({"": tree}):
        told = node.args
        if (told.vararg or told.kwarg or told.kwonlyargs) and not told.args and "staticmethod" not in marks_of(node):
            found.append((node.lineno, "L4 a star without a first parameter"))
    for node in nodes(tree, ast.Lambda):
        if node.args.vararg or node.args.kwarg or node.args.kwonlyargs:
            found.append((node.lineno, "L4 a star of a lambda"))
    return found


def tables(tree, trees):
    """Return the lists and dicts at module level that contain others, are changed, or are called from."""
    found, names = [], []
    for node in tree.body:
        if isinstance(node, ast.Assign) and isinstance(node.value, (*CONTAINERS, ast.Tuple)):
            if [part for part in nodes(node.value, *CONTAINERS) if part is not node.value]:
                found.append((node.lineno, "L15 a list or dict in another one at module level"))
            names.append(node.targets[0].id)
    for node in nodes(tree, ast.Subscript):
        if isinstance(node.value, ast.Name) and node.value.id in names and not isinstance(node.ctx, ast.Load):
            found.append((node.lineno, f"L15 {node.value.id} is changed"))
    for node in nodes(tree, ast.Call):
        if isinstance(node.func, ast.Subscript):
            found.append((node.lineno, "L3 a function that is called straight from a table"))
        owner = node.func.value if isinstance(node.func, ast.Attribute) else None
        if isinstance(owner, ast.Name) and owner.id in names and node.func.attr in CHANGING:
            found.append((node.lineno, f"L15 {owner.id} is changed"))
    return found


def generator_names(tree, trees):
    """Return the functions that have the name of a generator, and generators in places that are not listed."""
    functions = all_nodes(trees, *FUNCTIONS)
    yielding = [node for node in functions if nodes(node, ast.Yield, ast.YieldFrom)]
    names = [node.name for node in yielding]
    found = []
    for node in nodes(tree, *FUNCTIONS):
        many = len([other for other in functions if other.name == node.name])
        if node.name in names and many > 1:
            found.append((node.lineno, f"L23 the name of the generator {node.name}"))
        if node in yielding and (node.name.startswith("__") or marks_of(node)):
            found.append((node.lineno, f"L23 the place of the generator {node.name}"))
        if node in yielding and nodes(node, ast.Try, ast.With):
            found.append((node.lineno, f"L23 a try or with in the generator {node.name}"))
    return found


def local_names(tree, trees):
    """Return the parameters and variables that have the name of a class or an import of their file."""
    barred = [part.asname or part.name for node in nodes(tree, ast.ImportFrom) for part in node.names]
    barred += [node.name for node in nodes(tree, ast.ClassDef)]
    inner = [part for node in nodes(tree, *FUNCTIONS) for part in nodes(node, ast.arg, ast.Name)]
    told = [(part.arg, part.lineno) for part in inner if isinstance(part, ast.arg)]
    told += [(part.id, part.lineno) for part in inner if isinstance(part, ast.Name) and isinstance(part.ctx, ast.Store)]
    return sorted({(line, f"L15 {name} is an import or a class too") for name, line in told if name in barred})


def takes(node, call, first):
    """Return whether a function, from its first parameter on, takes what a call passes."""
    told = node.args
    if any(isinstance(part, ast.Starred) for part in call.args) or any(part.arg is None for part in call.keywords):
        return True
    plain = [part.arg for part in told.args[first:]]
    named = [part.arg for part in call.keywords]
    known = plain[len(call.args):] + [part.arg for part in told.kwonlyargs]
    needed = plain[:len(plain) - len(told.defaults)]
    needed += [part.arg for part, worth in zip(told.kwonlyargs, told.kw_defaults) if worth is None]
    enough = all(name in plain[:len(call.args)] + named for name in needed)
    few = len(call.args) <= len(plain) or told.vararg is not None
    return enough and few and (told.kwarg is not None or all(name in known for name in named))


def arguments(tree, trees):
    """Return the calls of own functions, classes and methods that pass too much or too little."""
    functions = {node.name: node for each in trees.values() for node in each.body if isinstance(node, ast.FunctionDef)}
    starts = {}
    for owner in all_nodes(trees, ast.ClassDef):
        for node in owner.body:
            if isinstance(node, ast.FunctionDef) and node.name == "__init__":
                starts[owner.name] = node
    found = []
    for call in nodes(tree, ast.Call):
        name = called(call)
        if name in functions and not takes(functions[name], call, 0):
            found.append((call.lineno, f"L22 the call of {name}"))
        if name in starts and not takes(starts[name], call, 1):
            found.append((call.lineno, f"L22 the call of {name}"))
        if isinstance(call.func, ast.Attribute):
            own = [node for node in owned(trees) if node.name == call.func.attr and not node.name.startswith("__")]
            if own and not all(takes(node, call, 0 if "staticmethod" in marks_of(node) else 1) for node in own):
                found.append((call.lineno, f"L22 the call of the method {call.func.attr}"))
    return found


RULES = [
    products, quiet_methods, attributes, starred, tables, generator_names, local_names, arguments,
]
