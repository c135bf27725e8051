"""What a package's properties run, and what that changes: L5 and L26 of the language rules.

Of an object nothing is known but names, so a call of a method stands for all methods of that name.
"""

import ast

# The methods of builtin values that modify (L26).
MODIFYING = set("append clear extend insert pop remove reverse setdefault update".split())
# The double-underscore methods that can change their object; the others only tell, as a property does.
ACTING = set("__init__ __enter__ __exit__ __call__ __iter__ __setitem__".split())


def modifying_calls(texts):
    """The pairs of what only tells, and an own method, called like one that modifies, of which it runs a call."""
    parts = _parts_of(texts)
    own = {"." + name for name in MODIFYING} & set(parts)
    return sorted({(node.name, name[1:]) for node in _telling(parts) for part in _run_by(node, parts)
                   for name in _runs(part) if name in own})


def changing_parts(texts):
    """The pairs of what only tells, and a function that it runs, which changes what it did not create itself."""
    parts = _parts_of(texts)
    return sorted({(node.name, part.name) for node in _telling(parts) for part in _run_by(node, parts)
                   if isinstance(part, ast.FunctionDef) and part.name != "__init__" and _does_change(part)})


def is_property(node):
    return any(isinstance(one, ast.Name) and one.id == "property" for one in node.decorator_list)


def _parts_of(texts):
    """A dict from what a part of a file can run, as told below, to the parts that are run then."""
    parts = {}
    for tree in [ast.parse(text) for text in texts]:
        methods = {id(one) for kind in ast.walk(tree) if isinstance(kind, ast.ClassDef) for one in kind.body}
        for node in ast.walk(tree):
            for name, part in _named(node, id(node) in methods):
                parts.setdefault(name, []).append(part)
        for node in tree.body:
            if isinstance(node, ast.Assign):
                # Who reads a table of functions can call each of them.
                parts.setdefault("=" + node.targets[0].id, []).extend(
                    [_call(one) for one in ast.walk(node.value) if isinstance(one, ast.Name)])
    return parts


def _named(node, is_method):
    """The pairs of what can be run by a name that is given here, and the part that is run then."""
    if isinstance(node, ast.FunctionDef) and not is_method:
        yield node.name, node
    elif isinstance(node, ast.FunctionDef):
        yield ("=." if is_property(node) else ".") + node.name, node
    elif isinstance(node, ast.ClassDef):
        yield from [(node.name, _call(base)) for base in node.bases]
        yield from [(node.name, one) for one in node.body if isinstance(one, ast.FunctionDef) and one.name == "__init__"]
    elif isinstance(node, ast.ImportFrom):
        for one in [one for one in node.names if one.asname]:
            yield one.asname, _call(ast.Name(one.name))
            yield "=" + one.asname, ast.Name(one.name)


def _call(function):
    return ast.Call(function, [], [])


def _runs(part):
    """What a part of a file runs: `f`, `.m` for a method, and by reading it `=T` for a table, `=.p` for a property."""
    for node in ast.walk(part):
        if isinstance(node, ast.Call):
            for called in [node.func, *[word.value for word in node.keywords if word.arg == "key"]]:
                yield called.id if isinstance(called, ast.Name) else "." + getattr(called, "attr", "")
        elif isinstance(node, ast.Name):
            yield "=" + node.id
        elif isinstance(node, ast.Attribute):
            yield "=." + node.attr


def _run_by(root, parts):
    """All parts that a function runs, itself the first."""
    found = {id(root): root}
    ahead = [root]
    while ahead:
        for name in _runs(ahead.pop()):
            more = [part for part in parts.get(name, ()) if id(part) not in found]
            found.update({id(part): part for part in more})
            ahead.extend(more)
    return list(found.values())


def _telling(parts):
    """The properties, and the double-underscore methods that change nothing."""
    nodes = [node for name in parts if name.startswith("=.") for node in parts[name]]
    return nodes + [node for name in parts if name.startswith(".__") and name[1:] not in ACTING for node in parts[name]]


def _does_change(function):
    """Whether a function changes what it did not create itself, by a statement `name = [..]` or the like."""
    assigned = _assigned(function)
    own = {name for name in assigned if all([_is_new(value) for value in assigned[name]])}
    for node in ast.walk(function):
        if isinstance(node, ast.AugAssign) and isinstance(node.target, ast.Name):
            if not _is_plain_step(node, assigned.get(node.target.id, [None])):
                return True
        elif isinstance(node, (ast.Attribute, ast.Subscript)):
            is_own = isinstance(node.value, ast.Name) and node.value.id in own
            is_modified = not isinstance(node.ctx, ast.Load) or getattr(node, "attr", "") in MODIFYING
            if is_modified and not is_own or getattr(node, "attr", "") in ("sort", "add", "discard"):
                return True
    return False


def _is_plain_step(node, values):
    """Whether a `+=` or the like stands at a local variable with these values that can have it (L5)."""
    if isinstance(node.op, (ast.Sub, ast.FloorDiv)) or isinstance(node.op, ast.Add) and isinstance(node.value, ast.Constant):
        return True
    is_sum = isinstance(node.op, ast.Add)
    return isinstance(node.op, (ast.Add, ast.Mult)) and all(
        [isinstance(value, ast.Constant) or is_sum and (_is_call_of(value, ("list",)) or isinstance(value, ast.List) and not value.elts)
         for value in values])


def _assigned(function):
    """The dict from the names of a function to what they are assigned, None for what is not told there."""
    assigned = {one.arg: [None] for one in ast.walk(function) if isinstance(one, ast.arg)}
    stored = {id(node.targets[0]): node.value for node in ast.walk(function) if isinstance(node, ast.Assign) and len(node.targets) == 1}
    more = {id(node.target) for node in ast.walk(function) if isinstance(node, ast.AugAssign)}
    for node in ast.walk(function):
        if isinstance(node, ast.Name) and isinstance(node.ctx, ast.Store) and id(node) not in more:
            assigned.setdefault(node.id, []).append(stored.get(id(node)))
    return assigned


def _is_new(value):
    """Whether an assigned value is a list or dict that is made there (L5)."""
    return isinstance(value, (ast.List, ast.Dict, ast.ListComp)) or _is_call_of(value, ("list", "dict", "sorted"))


def _is_call_of(value, names):
    return isinstance(value, ast.Call) and isinstance(value.func, ast.Name) and value.func.id in names
